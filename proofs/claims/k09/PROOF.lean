import PyProof.Rows.All
import Wide.All
import OpenK.AllK
import Wide.FinOn
import HandS.ForMost
import HandS.IsInst
import HandS.Wide
import HandS.SortRule
import HandS.TupAny
import KE.SortData
import KE.DataCmp
import KE.GoesNew
import KE.KUnpackStar
import HandS.Style
import HandS.StrMore
import HandS.Text
import HandS.SetBool
import HandS.Strs
import HandS.More
import HandS.EndBits
import HandS.SortInts
import PySem.Challenge.RW_longhold_k09_facts_in_order
set_option Elab.async false
set_option linter.all false
set_option maxRecDepth 100000
set_option maxHeartbeats 8000000
set_option backward.match.sparseCases false
namespace PU
open PySem PySem.Spec PyProof.Rows L2

abbrev D := PyData
abbrev DE := List (Option D)

/-- a key of a dict, an item that is no object, as data -/
def keyD : Key → D
  | .inl i => .int i
  | .inr x => .str x
def atD : D → Bool
  | .none | .bool _ | .int _ | .str _ => true
  | _ => false
def atV : D → V
  | .bool b => .bl b
  | .int i => .int i
  | .str x => .str x
  | _ => .non
mutual
/-- the value tells the data: its lists and tuples stand in the heap (a tuple also in the text's own part) -/
inductive Rp (K : PySem.W.Frag) (M : Hp) : V → D → Prop
  | none_ : Rp K M .non .none
  | bool_ (b : Bool) : Rp K M (.bl b) (.bool b)
  | int_ (i : Int) : Rp K M (.int i) (.int i)
  | str_ (x : Str) : Rp K M (.str x) (.str x)
  | list_ {a : Addr} {vs : List V} {ds : List D} (h : Rd M a (.lst vs)) (r : RpA K M vs ds) : Rp K M (.ref a) (.list ds)
  | tuple_ {a : Addr} {vs : List V} {ds : List D} (h : SqT K M a vs) (r : RpA K M vs ds) : Rp K M (.ref a) (.tuple ds)
  /-- the script is told as pairs (nothing else is): it is read, never joined -/
  | scr_ {a : Addr} (ns : List Int) (h : SqL K M a (ns.map V.int)) : Rp K M (.ref a) (.dict (ns.map fun n => (.int n, .none)))
  /-- a dict is told by its pairs behind a mark; its values are no objects -/
  | dict_ {a : Addr} (ks : List (Key × D)) (hf : (ks.all fun p => atD p.2) = true) (h : Rd M a (.dK (ks.map fun p => (p.1, atV p.2)))) : Rp K M (.ref a) (.dict ((.none, .none) :: ks.map fun p => (keyD p.1, p.2)))
inductive RpA (K : PySem.W.Frag) (M : Hp) : List V → List D → Prop
  | nil_ : RpA K M [] []
  | cons_ {v : V} {vs : List V} {d : D} {ds : List D} (h : Rp K M v d) (r : RpA K M vs ds) : RpA K M (v :: vs) (d :: ds)
end
def scrD (ns : List Int) : D := .dict (ns.map fun n => (.int n, .none))
def dictD (ks : List (Key × D)) : D := .dict ((.none, .none) :: ks.map fun p => (keyD p.1, p.2))
theorem rd_same {M M' : Hp} (e : Same M M') {a : Addr} {o : HO} (h : Rd M a o) : Rd M' a o := by
  rcases h with h | ⟨u, h⟩
  · exact .inl (e _ _ h)
  · exact .inr ⟨u, e _ _ h⟩
mutual
theorem rp_dp {K : PySem.W.Frag} {M : Hp} : ∀ {v : V} {d : D}, PyData.canLay0 d = true → Rp K M v d → Dp K M v d
  | _, _, _, .none_ => Dp.non
  | _, _, _, .bool_ b => Dp.bl b
  | _, _, _, .int_ i => Dp.int i
  | _, _, _, .str_ x => Dp.str x
  | _, _, c, .list_ h r => Dp.lst (.inl h) (rpa_dpa (by rw [PyData.canLay0] at c; exact c) r)
  | _, _, c, .tuple_ h r => Dp.tup h (rpa_dpa (by rw [PyData.canLay0] at c; exact c) r)
  | _, _, c, .scr_ _ _ => by rw [PyData.canLay0] at c; cases c
  | _, _, c, .dict_ _ _ _ => by rw [PyData.canLay0] at c; cases c
theorem rpa_dpa {K : PySem.W.Frag} {M : Hp} : ∀ {vs : List V} {ds : List D}, PyData.canLayAll0 ds = true → RpA K M vs ds → DpAll K M vs ds
  | _, _, _, .nil_ => DpAll.nil
  | _, _, c, .cons_ h r => by
    rw [PyData.canLayAll0, Bool.and_eq_true] at c
    exact DpAll.cons (rp_dp c.1 h) (rpa_dpa c.2 r)
end
mutual
theorem dp_mono {K : PySem.W.Frag} {H H' : Hp} (e : Same H H') : ∀ (d : D) (v : V), Rp K H v d → Rp K H' v d
  | .none, _, h => by cases h; exact .none_
  | .bool b, _, h => by cases h; exact .bool_ b
  | .int i, _, h => by cases h; exact .int_ i
  | .str x, _, h => by cases h; exact .str_ x
  | .list ds, _, h => by
    cases h with
    | list_ hs ha =>
      refine .list_ ?_ (dpa_mono e ds _ ha)
      rcases hs with h | ⟨o, h⟩
      · exact .inl (e _ _ h)
      · exact .inr ⟨o, e _ _ h⟩
  | .tuple ds, _, h => by
    cases h with
    | tuple_ hs ha =>
      refine .tuple_ ?_ (dpa_mono e ds _ ha)
      rcases hs with (h | ⟨o, h⟩) | h
      · exact .inl (.inl (e _ _ h))
      · exact .inl (.inr ⟨o, e _ _ h⟩)
      · exact .inr h
  | .dict _, _, h => by
    cases h with
    | scr_ ns hs => exact .scr_ ns (e.seq hs)
    | dict_ ks hf hs => exact .dict_ ks hf (rd_same e hs)
theorem dpa_mono {K : PySem.W.Frag} {H H' : Hp} (e : Same H H') : ∀ (ds : List D) (vs : List V), RpA K H vs ds → RpA K H' vs ds
  | [], _, h => by cases h; exact .nil_
  | d :: ds, _, h => by
    cases h with
    | cons_ h1 h2 => exact .cons_ (dp_mono e d _ h1) (dpa_mono e ds _ h2)
end
section
variable {K : PySem.W.Frag} {H H' : Hp}
theorem seqT_mono {a : Addr} {xs : List V} (e : Same H H') (h : SqT K H a xs) : SqT K H' a xs := by
  rcases h with (h | ⟨o, h⟩) | h
  · exact .inl (.inl (e _ _ h))
  · exact .inl (.inr ⟨o, e _ _ h⟩)
  · exact .inr h
theorem rpa_len : ∀ {vs : List V} {ds : List D}, RpA K H vs ds → vs.length = ds.length
  | _, _, .nil_ => rfl
  | _, _, .cons_ _ t => congrArg (· + 1) (rpa_len t)
theorem dpa_get : ∀ {vs : List V} {ds : List D} {i : Nat} {d : D}, RpA K H vs ds → ds[i]? = some d → ∃ v, vs[i]? = some v ∧ Rp K H v d
  | _, _, _, _, .nil_, e => by simp at e
  | _, _, 0, d, .cons_ r _, e => by
    have q : _ = d := Option.some.inj e
    subst q
    exact ⟨_, rfl, r⟩
  | _, _, i + 1, d, .cons_ _ t, e => by
    obtain ⟨v, h1, h2⟩ := dpa_get (i := i) t (by simpa using e)
    exact ⟨v, by simpa using h1, h2⟩
theorem dpa_getV : ∀ {vs : List V} {ds : List D} {i : Nat} {v : V}, RpA K H vs ds → vs[i]? = some v → ∃ d, ds[i]? = some d ∧ Rp K H v d
  | _, _, _, _, .nil_, e => by simp at e
  | _, _, 0, v, .cons_ r _, e => by
    have q : _ = v := Option.some.inj e
    subst q
    exact ⟨_, rfl, r⟩
  | _, _, i + 1, d, .cons_ _ t, e => by
    obtain ⟨v, h1, h2⟩ := dpa_getV (i := i) t (by simpa using e)
    exact ⟨v, by simpa using h1, h2⟩
theorem dpa_app : ∀ {vs ws : List V} {ds es : List D}, RpA K H vs ds → RpA K H ws es → RpA K H (vs ++ ws) (ds ++ es)
  | _, _, _, _, .nil_, s => s
  | _, _, _, _, .cons_ r t, s => .cons_ r (dpa_app t s)
theorem dpa_take : ∀ {vs : List V} {ds : List D} (n : Nat), RpA K H vs ds → RpA K H (vs.take n) (ds.take n)
  | _, _, 0, _ => .nil_
  | _, _, _ + 1, .nil_ => .nil_
  | _, _, n + 1, .cons_ r t => .cons_ r (dpa_take n t)
theorem dpa_drop : ∀ {vs : List V} {ds : List D} (n : Nat), RpA K H vs ds → RpA K H (vs.drop n) (ds.drop n)
  | _, _, 0, h => h
  | _, _, _ + 1, .nil_ => .nil_
  | _, _, n + 1, .cons_ _ t => dpa_drop n t
theorem dpa_set {v : V} {d : D} (r : Rp K H v d) : ∀ {vs : List V} {ds : List D} (i : Nat), RpA K H vs ds → RpA K H (vs.set i v) (ds.set i d)
  | _, _, _, .nil_ => .nil_
  | _, _, 0, .cons_ _ t => .cons_ r t
  | _, _, i + 1, .cons_ q t => .cons_ q (dpa_set r i t)
theorem dpa_rev : ∀ {vs : List V} {ds : List D}, RpA K H vs ds → RpA K H vs.reverse ds.reverse
  | _, _, .nil_ => .nil_
  | _, _, .cons_ r t => by rw [List.reverse_cons, List.reverse_cons]; exact dpa_app (dpa_rev t) (.cons_ r .nil_)
theorem dpa_ints : ∀ (ns : List Int), RpA K H (ns.map V.int) (ns.map PyData.int)
  | [] => .nil_
  | n :: r => .cons_ (.int_ n) (dpa_ints r)
theorem vs_ints : ∀ {vs : List V} {ns : List Int}, RpA K H vs (ns.map PyData.int) → vs = ns.map V.int
  | [], [], _ => rfl
  | [], _ :: _, h => by cases h
  | _ :: _, [], h => by cases h
  | v :: vs, n :: ns, h => by
    cases h with
    | cons_ h1 h2 =>
      cases h1
      rw [vs_ints h2]
      rfl
theorem vs_bls : ∀ {vs : List V} {bs : List Bool}, RpA K H vs (bs.map PyData.bool) → vs = bs.map V.bl
  | [], [], _ => rfl
  | [], _ :: _, h => by cases h
  | _ :: _, [], h => by cases h
  | v :: vs, n :: ns, h => by
    cases h with
    | cons_ h1 h2 =>
      cases h1
      rw [vs_bls h2]
      rfl
theorem vs_strs : ∀ {vs : List V} {bs : List Str}, RpA K H vs (bs.map PyData.str) → vs = bs.map V.str
  | [], [], _ => rfl
  | [], _ :: _, h => by cases h
  | _ :: _, [], h => by cases h
  | v :: vs, n :: ns, h => by
    cases h with
    | cons_ h1 h2 =>
      cases h1
      rw [vs_strs h2]
      rfl
end

mutual
def flat : D → Bool
  | .list _ => false
  | .tuple xs => flats xs
  | .dict _ => false
  | _ => true
def flats : List D → Bool
  | [] => true
  | x :: xs => flat x && flats xs
end
/-- no tuple stands there -/
def NoTup : Option HO → Prop
  | some (.tup _) => False
  | some (.frz _ (.tup _)) => False
  | _ => True
/-- M without what stands at the addresses S (lists and dicts all of them) -/
noncomputable def lessOf (M : Hp) (S : Addr → Prop) : Hp := open Classical in fun a => if S a then none else M a
theorem lessOf_in {M : Hp} {S : Addr → Prop} {a : Addr} (h : S a) : lessOf M S a = none := by unfold lessOf; rw [if_pos h]
theorem lessOf_out {M : Hp} {S : Addr → Prop} {a : Addr} (h : ¬ S a) : lessOf M S a = M a := by unfold lessOf; rw [if_neg h]
mutual
theorem dp_less {K : PySem.W.Frag} {M : Hp} {S : Addr → Prop} (hS : ∀ a, S a → NoTup (M a)) : ∀ (d : D) (v : V), flat d = true → Rp K M v d → Rp K (lessOf M S) v d
  | .none, _, _, h => by cases h; exact .none_
  | .bool b, _, _, h => by cases h; exact .bool_ b
  | .int i, _, _, h => by cases h; exact .int_ i
  | .str x, _, _, h => by cases h; exact .str_ x
  | .list ds, _, f, _ => by unfold flat at f; cases f
  | .tuple ds, _, f, h => by
    unfold flat at f
    cases h with
    | tuple_ hs ha =>
      refine .tuple_ ?_ (dpa_less hS ds _ f ha)
      rcases hs with (h | ⟨o, h⟩) | h
      · refine .inl (.inl ?_)
        rw [lessOf_out fun s => ?_]
        · exact h
        · have e := hS _ s
          rw [h] at e; exact e.elim
      · refine .inl (.inr ⟨o, ?_⟩)
        rw [lessOf_out fun s => ?_]
        · exact h
        · have e := hS _ s
          rw [h] at e; exact e.elim
      · exact .inr h
  | .dict _, _, f, _ => by unfold flat at f; cases f
theorem dpa_less {K : PySem.W.Frag} {M : Hp} {S : Addr → Prop} (hS : ∀ a, S a → NoTup (M a)) : ∀ (ds : List D) (vs : List V), flats ds = true → RpA K M vs ds → RpA K (lessOf M S) vs ds
  | [], _, _, h => by cases h; exact .nil_
  | d :: ds, _, f, h => by
    unfold flats at f
    rw [Bool.and_eq_true] at f
    cases h with
    | cons_ h1 h2 => exact .cons_ (dp_less hS d _ f.1 h1) (dpa_less hS ds _ f.2 h2)
end

section
variable {X : Cx}
def WE (X : Cx) (e : Expr) : TE := fun σ H Q => ∃ t, PE X e t ∧ t σ H Q
def WT (X : Cx) (e : Expr) : TT := fun σ H Q => ∃ t, PT X e t ∧ t σ H Q
def WA (X : Cx) (es : List Expr) : TA := fun σ H Q => ∃ t, PA X es t ∧ t σ H Q
def WS (X : Cx) (st : Stmt) : TS := fun E σ H => ∃ t, PS X st t ∧ t E σ H
def WSs (X : Cx) (st : List Stmt) : TS := fun E σ H => ∃ t, PSs X st t ∧ t E σ H
theorem pe_w {e : Expr} : PE X e (WE X e) := ⟨fun pins s σ H Q I ⟨_, h, q⟩ => h.run pins s σ H Q I q⟩
theorem pt_w {e : Expr} : PT X e (WT X e) := ⟨fun pins s σ H Q I ⟨_, h, q⟩ => h.run pins s σ H Q I q⟩
theorem pa_w {es : List Expr} : PA X es (WA X es) := ⟨fun pos pins s σ H Q I ⟨_, h, q⟩ => h.run pos pins s σ H Q I q⟩
theorem ps_w {st : Stmt} : PS X st (WS X st) := ⟨fun pins s σ H E I ⟨_, h, q⟩ => h.run pins s σ H E I q⟩
theorem pss_w {st : List Stmt} : PSs X st (WSs X st) := ⟨fun pins s σ H E I ⟨_, h, q⟩ => h.run pins s σ H E I q⟩
end

structure Stp (M H M' H' : Hp) : Prop where
  m : Same M M'
  h : Same H H'
  mh : Same M' H'
  nw : ∀ a o, H a = some o → M a = none → M' a = none
theorem Stp.refl {M H : Hp} (e : Same M H) : Stp M H M H := ⟨.refl _, .refl _, e, fun _ _ _ h => h⟩
theorem Stp.trans {M H M1 H1 M2 H2 : Hp} (a : Stp M H M1 H1) (b : Stp M1 H1 M2 H2) : Stp M H M2 H2 := ⟨a.m.trans b.m, a.h.trans b.h, b.mh, fun p o h n => b.nw p o (a.h p o h) (a.nw p o h n)⟩
theorem same_new {H : Hp} {p : Addr} {o : HO} (h : H p = none) : Same H (upd H p o) := fun b x e => by
  rw [upd_ne (ne_of_none e h)]
  exact e
theorem same_upd2 {M H : Hp} {p : Addr} {o : HO} (e : Same M H) : Same (upd M p o) (upd H p o) := fun b x h => by
  by_cases hb : b = p
  · subst hb
    rw [upd_same] at h ⊢
    exact h
  · rw [upd_ne hb] at h ⊢
    exact e b x h
/-- a new object, read for ever -/
theorem Stp.laid {M H : Hp} {p : Addr} {o : HO} (e : Same M H) (hp : H p = none) : Stp M H (upd M p o) (upd H p o) := ⟨same_new (e.free hp), same_new hp, same_upd2 e, fun a u h n => by
  rw [upd_ne (ne_of_none h hp)]
  exact n⟩
/-- a new object, one's own -/
theorem Stp.mine {M H : Hp} {p : Addr} {o : HO} (e : Same M H) (hp : H p = none) : Stp M H M (upd H p o) := ⟨.refl _, same_new hp, e.trans (same_new hp), fun _ _ _ h => h⟩

structure Sl (K : PySem.W.Frag) (M : Hp) (σ : L2.St) (env : DE) : Prop where
  len : σ.length = env.length
  at_ : ∀ (i : Nat) (d : D), env[i]? = some (some d) → ∃ v, σ[i]? = some (some v) ∧ Rp K M v d
theorem Sl.mono {K : PySem.W.Frag} {M M' : Hp} {σ : L2.St} {env : DE} (h : Sl K M σ env) (e : Same M M') : Sl K M' σ env :=
  ⟨h.len, fun i d q => let ⟨v, a, b⟩ := h.at_ i d q; ⟨v, a, dp_mono e d v b⟩⟩

/-- what is handed on: a value that is the data d; where own, a new list -/
def Post (K : PySem.W.Frag) (M H : Hp) (d : D) (Q : VK) : Prop := ∀ v M' H', Stp M H M' H' → Rp K M' v d → Q v H'
def PostF (K : PySem.W.Frag) (M H : Hp) (ds : List D) (Q : VK) : Prop := ∀ p vs M' H', H p = none → M' p = none → Stp M H M' H' → H' p = some (.lst vs) → RpA K M' vs ds → Q (.ref p) H'
theorem Post.own {K : PySem.W.Frag} {M H : Hp} {ds : List D} {Q : VK} (h : Post K M H (.list ds) Q) : PostF K M H ds Q := fun p vs M' H' hp mp st hv hd => by
  have s1 : Same M' (upd M' p (.lst vs)) := same_new mp
  refine h (.ref p) (upd M' p (.lst vs)) H' ⟨st.m.trans s1, st.h, fun b x e => ?_, fun b x e n => by
    rw [upd_ne (ne_of_none e hp)]
    exact st.nw b x e n⟩ (.list_ (.inl upd_same) (dpa_mono s1 ds vs hd))
  by_cases hb : b = p
  · subst hb
    rw [upd_same] at e
    rw [hv]
    exact e
  · rw [upd_ne hb] at e
    exact st.mh b x e
theorem Post.step {K : PySem.W.Frag} {M H M1 H1 : Hp} {d : D} {Q : VK} (h : Post K M H d Q) (s : Stp M H M1 H1) : Post K M1 H1 d Q := fun v M' H' st => h v M' H' (s.trans st)
theorem PostF.step {K : PySem.W.Frag} {M H M1 H1 : Hp} {ds : List D} {Q : VK} (h : PostF K M H ds Q) (s : Stp M H M1 H1) : PostF K M1 H1 ds Q := fun p vs M' H' hp mp st => h p vs M' H' (s.h.free hp) mp (s.trans st)

def EV (X : Cx) (e : Expr) (env : DE) (d : D) : Prop := ∀ σ M H Q, Sl X.K M σ env → Same M H → Post X.K M H d Q → WE X e σ H Q
def EVF (X : Cx) (e : Expr) (env : DE) (ds : List D) : Prop := ∀ σ M H Q, Sl X.K M σ env → Same M H → PostF X.K M H ds Q → WE X e σ H Q
def EVT (X : Cx) (e : Expr) (env : DE) (b : Bool) : Prop := ∀ σ M H (Q : Bool → Hp → Prop), Sl X.K M σ env → Same M H → (∀ M' H', Stp M H M' H' → Q b H') → WT X e σ H Q
def EVA (X : Cx) (es : List Expr) (env : DE) (ds : List D) : Prop := ∀ σ M H (Q : List V → Hp → Prop), Sl X.K M σ env → Same M H → (∀ vs M' H', Stp M H M' H' → RpA X.K M' vs ds → Q vs H') → WA X es σ H Q
section
variable {X : Cx} {e : Expr} {env : DE}
theorem EVF.ev {ds : List D} (h : EVF X e env ds) : EV X e env (.list ds) := fun σ M H Q s mh q => h σ M H Q s mh q.own
end
/-- the meaning of what may be called: data to data; fresh: a list handed back is new -/
structure Sem1 where
  run : List D → Option D
  fresh : Bool
/-- by values: what a call with this meaning asks -/
def rS (K : PySem.W.Frag) (s : Sem1) : List V → Hp → VK → Prop := fun vs H Q => ∃ M ds d, Same M H ∧ RpA K M vs ds ∧ s.run ds = some d ∧ (if s.fresh then ∃ es, d = .list es ∧ PostF K M H es Q else Post K M H d Q)
end PU
set_option backward.match.sparseCases false
namespace PU
open PySem PySem.Spec PyProof.Rows L2

inductive Op | add | sub | mul | fdiv | mod | pow | eq | ne | lt | le | gt | ge | isin | notin | is_ | isnot
  deriving DecidableEq
def lim : Nat := 100000
theorem lim_line : lim ≤ sizeLine := by decide
def addD : D → D → Option D
  | .int i, .int j => some (.int (i + j))
  | .str x, .str y => if x.length + y.length ≤ lim then some (.str (x ++ y)) else none
  | .list xs, .list ys => if xs.length + ys.length ≤ lim then some (.list (xs ++ ys)) else none
  | .tuple (x :: xs), .tuple ys => if xs.length + 1 + ys.length ≤ lim then some (.tuple (x :: (xs ++ ys))) else none
  | .tuple [], .tuple ys => if ys.length ≤ lim then some (.tuple ys) else none
  | _, _ => none
def subD : D → D → Option D
  | .int i, .int j => some (.int (i - j))
  | _, _ => none
def mulD : D → D → Option D
  | .int i, .int j => if (-(2 ^ 64) < i ∧ i < 2 ^ 64) ∨ (-(2 ^ 64) < j ∧ j < 2 ^ 64) then some (.int (i * j)) else none
  | _, _ => none
def fdivD : D → D → Option D
  | .int i, .int j => if 0 < j ∧ j < 1073741824 then some (.int (i / j)) else none
  | _, _ => none
def modD : D → D → Option D
  | .int i, .int j => if 0 < j then some (.int (i % j)) else none
  | _, _ => none
def powD : D → D → Option D
  | .int i, .int j => if 0 ≤ j ∧ j ≤ 1000000 ∧ i.natAbs < 2 ^ 64 then some (.int (i ^ j.toNat)) else none
  | _, _ => none
def eqD (x y : D) : Option D := if SeqAt.shaped x = true ∧ SeqAt.shaped y = true then some (.bool (PyData.eqv x y)) else none
def neD (x y : D) : Option D := if SeqAt.shaped x = true ∧ SeqAt.shaped y = true then some (.bool (!PyData.eqv x y)) else none
def ltD : D → D → Option D
  | .int i, .int j => some (.bool (decide (i < j)))
  | _, _ => none
def leD : D → D → Option D
  | .int i, .int j => some (.bool (decide (i ≤ j)))
  | .tuple xs, .tuple ys => if PySem.W.alike (.tuple xs) (.tuple ys) = true ∧ SeqAt.shaped (.tuple xs) = true ∧ SeqAt.shaped (.tuple ys) = true ∧ (PyData.tuple xs).depth ≤ 32 then some (.bool (!PySem.W.dataLt (.tuple ys) (.tuple xs))) else none
  | _, _ => none
def gtD : D → D → Option D
  | .int i, .int j => some (.bool (decide (j < i)))
  | _, _ => none
def geD : D → D → Option D
  | .int i, .int j => some (.bool (decide (j ≤ i)))
  | _, _ => none
def isD : D → D → Option D
  | .none, .none => some (.bool true)
  | .bool _, .none => some (.bool false)
  | .int _, .none => some (.bool false)
  | .str _, .none => some (.bool false)
  | .list _, .none => some (.bool false)
  | .tuple _, .none => some (.bool false)
  | _, _ => none
def isnotD (x y : D) : Option D := match isD x y with
  | some (.bool b) => some (.bool (!b))
  | _ => none
def flatD : D → Bool
  | .none | .bool _ | .int _ | .str _ => true
  | _ => false
def keyEq : D → D → Bool
  | .int i, .int j => decide (i = j)
  | .str x, .str y => decide (x = y)
  | _, _ => false
def isKey : D → Bool
  | .int _ => true
  | .str _ => true
  | _ => false
/-- the pairs of a dict -/
def tailK : List (D × D) → Option (List (D × D))
  | (.none, .none) :: r => some r
  | _ => none
def inK (x : D) (kvs : List (D × D)) : Option Bool := match tailK kvs with
  | some r => if isKey x then some (r.any fun p => keyEq p.1 x) else none
  | none => none
def inD (x : D) : D → Option Bool
  | .dict kvs => inK x kvs
  | .list ys => if flatD x && ys.all flatD then some (ys.any fun y => PyData.eqv y x) else none
  | .tuple ys => if flatD x && ys.all flatD then some (ys.any fun y => PyData.eqv y x) else none
  | _ => none
def opD : Op → D → D → Option D
  | .add => addD
  | .sub => subD
  | .mul => mulD
  | .fdiv => fdivD
  | .mod => modD
  | .pow => powD
  | .eq => eqD
  | .ne => neD
  | .lt => ltD
  | .le => leD
  | .gt => gtD
  | .ge => geD
  | .isin => fun x y => (inD x y).map fun b => .bool b
  | .notin => fun x y => (inD x y).map fun b => .bool (!b)
  | .is_ => isD
  | .isnot => isnotD

section
variable {X : Cx} {K : PySem.W.Frag} {M H : Hp} {v w : V} {x y d : D} {Q : VK}
/-- a new list, or any value -/
def PostM (K : PySem.W.Frag) (M H : Hp) (d : D) (Q : VK) : Prop := match d with
  | .list ds => PostF K M H ds Q
  | d => Post K M H d Q
theorem Post.m (h : Post K M H d Q) : PostM K M H d Q := by
  cases d <;> first | exact h.own | exact h
theorem PostM.step {M1 H1 : Hp} (h : PostM K M H d Q) (s : Stp M H M1 H1) : PostM K M1 H1 d Q := by
  cases d <;> first | exact PostF.step h s | exact Post.step h s

theorem Post.here (h : Post K M H d Q) (mh : Same M H) (r : Rp K M v d) : Q v H := h v M H (Stp.refl mh) r
theorem Post.bool_ {b : Bool} (h : Post K M H (.bool b) Q) (mh : Same M H) : Q (.bl b) H := h.here mh (.bool_ b)
theorem Post.int_ {i : Int} (h : Post K M H (.int i) Q) (mh : Same M H) : Q (.int i) H := h.here mh (.int_ i)
theorem rd_up {a : Addr} {o : HO} (e : Same M H) (h : Rd M a o) : Rd H a o := by
  rcases h with h | ⟨u, h⟩
  · exact .inl (e _ _ h)
  · exact .inr ⟨u, e _ _ h⟩
def WR (X : Cx) (f : Value → Value → Sem Value) : R2 := fun x y H Q => ∃ r, OpR X f r ∧ r x y H Q
theorem op_w {f : Value → Value → Sem Value} : OpR X f (WR X f) := fun pins s σ H x y v u Q I rx ry ⟨_, h, q⟩ => h pins s σ H x y v u Q I rx ry q
def WCall (X : Cx) (f : Value) : List V → Hp → VK → Prop := fun vs H Q => ∃ r, CallR X f r ∧ r vs H Q
theorem call_w {f : Value} : CallR X f (WCall X f) := fun pins s σ H xs us Q I rx ⟨_, h, q⟩ => h pins s σ H xs us Q I rx q
def WIx (X : Cx) : R2 := fun x y H Q => ∃ r, IxR X r ∧ r x y H Q
theorem ix_w : IxR X (WIx X) := by
  intro value slice pins s σ H x y v u Q I rx ry h hs
  obtain ⟨_, h, q⟩ := h
  exact h value slice pins s σ H x y v u Q I rx ry q hs
def WSl (X : Cx) : V → Option Int → Option Int → Hp → VK → Prop := fun x lo hi H Q => ∃ r, SlR X r ∧ r x lo hi H Q
theorem sl_w : SlR X (WSl X) := by
  intro pins s σ H x v vl vu lo hi sl Q I rx hs pl pu h
  obtain ⟨_, h, q⟩ := h
  exact h pins s σ H x v vl vu lo hi sl Q I rx hs pl pu q

/-- xs + ys, read anywhere -/
def rCatR : R2 := fun x y H Q => ∃ l b xs zs, x = .ref l ∧ y = .ref b ∧ Rd H l (.lst xs) ∧ Rd H b (.lst zs) ∧ xs.length + zs.length ≤ lim ∧ ∀ p, H p = none → Q (.ref p) (upd H p (.lst (xs ++ zs)))
theorem op_catR : OpR X (binaryOp .Add) rCatR := by
  intro pins s σ H x y v u Q I rx ry h
  obtain ⟨l, b, xs, zs, rfl, rfl, hH, hB, hz, q⟩ := h
  cases rx
  cases ry
  obtain ⟨z, its, n, r, e⟩ := hH.ok I.hok
  obtain ⟨z2, its2, n2, r2, e2⟩ := hB.ok I.hok
  have hl := r.length
  have hl2 := r2.length
  have hz' := Nat.le_trans hz lim_line
  refine PySem.P.add_list e e2 ?_ (by rw [List.size_toArray, List.size_toArray]; omega)
  have ea : its.toArray ++ its2.toArray = (its ++ its2).toArray := by simp
  rw [ea]
  exact ⟨.ref _, _, I.lnew (t' := s.toks) (r.append r2) (by rw [List.length_append]; exact hz'), rfl, q _ I.fresh⟩

/-- the operator f serves data as g tells -/
def Serves (X : Cx) (f : Value → Value → Sem Value) (g : D → D → Option D) : Prop :=
  ∀ {M H : Hp} {v w : V} {x y d : D} {Q : VK}, Same M H → Rp X.K M v x → Rp X.K M w y → g x y = some d → PostM X.K M H d Q → WR X f v w H Q
theorem serves_add : Serves X (binaryOp .Add) addD := by
  intro M H v w x y d Q mh rv rw e q
  unfold addD at e
  split at e
  · cases rv
    cases rw
    cases e
    exact ⟨_, op_add, _, _, rfl, rfl, Post.here (d := .int _) q mh (.int_ _)⟩
  · split at e
    · rename_i hl
      cases rv
      cases rw
      cases e
      exact ⟨_, op_add_str, _, _, rfl, rfl, Nat.le_trans hl lim_line, Post.here (d := .str _) q mh (.str_ _)⟩
    · cases e
  · split at e
    · rename_i hl
      cases rv with
      | list_ h1 r1 =>
        cases rw with
        | list_ h2 r2 =>
          cases e
          have l1 := rpa_len r1
          have l2 := rpa_len r2
          refine ⟨_, op_catR, _, _, _, _, rfl, rfl, rd_up mh h1, rd_up mh h2, by rw [l1, l2]; exact hl, fun p hp => ?_⟩
          have q : PostF X.K M H _ Q := q
          exact q p _ M _ hp (mh.free hp) (Stp.mine mh hp) upd_same (dpa_app r1 r2)
    · cases e
  · split at e
    · rename_i hl
      cases rv with
      | tuple_ h1 r1 =>
        cases rw with
        | tuple_ h2 r2 =>
          cases e
          have l1 := rpa_len r1
          have l2 := rpa_len r2
          have l1' : _ = _ + 1 := l1
          refine ⟨_, op_catA, _, _, _, _, rfl, rfl, seqT_mono mh h1, seqT_mono mh h2, ?_, ?_, ?_, ?_⟩
          · have := lim_line
            omega
          · intro z
            rw [z] at l1
            cases l1
          · intro _ z
            rw [z] at l2 r2
            cases r2
            refine Post.here (d := .tuple _) q mh (.tuple_ h1 ?_)
            rw [List.append_nil]
            exact r1
          · intro _ _ p hp
            exact (show Post X.K M H (.tuple _) Q from q) _ _ _ (Stp.laid mh hp) (.tuple_ (.inl (.inl upd_same)) (dpa_mono (Stp.laid mh hp).m _ _ (dpa_app r1 r2)))
    · cases e
  · split at e
    · rename_i hl
      cases rv with
      | tuple_ h1 r1 =>
        cases rw with
        | tuple_ h2 r2 =>
          cases e
          cases r1
          refine ⟨_, op_catA, _, _, _, _, rfl, rfl, seqT_mono mh h1, seqT_mono mh h2, ?_, ?_, ?_, ?_⟩
          · rw [rpa_len r2]
            have := lim_line
            simp only [List.length_nil]
            omega
          · intro _
            exact Post.here (d := .tuple _) q mh (.tuple_ h2 r2)
          · intro z
            exact absurd rfl z
          · intro z
            exact absurd rfl z
    · cases e
  · cases e
theorem serves_sub : Serves X (binaryOp .Sub) subD := by
  intro M H v w x y d Q mh rv rw e q
  unfold subD at e
  split at e
  · cases rv
    cases rw
    cases e
    exact ⟨_, op_sub, _, _, rfl, rfl, Post.here (d := .int _) q mh (.int_ _)⟩
  · cases e
theorem serves_mul : Serves X (binaryOp .Mult) mulD := by
  intro M H v w x y d Q mh rv rw e q
  unfold mulD at e
  split at e
  · split at e
    · rename_i hc
      cases rv
      cases rw
      cases e
      exact ⟨_, op_mul, _, _, rfl, rfl, hc, Post.here (d := .int _) q mh (.int_ _)⟩
    · cases e
  · cases e
theorem serves_fdiv : Serves X (binaryOp .FloorDiv) fdivD := by
  intro M H v w x y d Q mh rv rw e q
  unfold fdivD at e
  split at e
  · split at e
    · rename_i hc
      cases rv
      cases rw
      cases e
      exact ⟨_, op_fdiv, _, _, rfl, rfl, hc, Post.here (d := .int _) q mh (.int_ _)⟩
    · cases e
  · cases e
theorem serves_mod : Serves X (binaryOp .Mod) modD := by
  intro M H v w x y d Q mh rv rw e q
  unfold modD at e
  split at e
  · split at e
    · rename_i hc
      cases rv
      cases rw
      cases e
      exact ⟨_, op_mod, _, _, rfl, rfl, hc, Post.here (d := .int _) q mh (.int_ _)⟩
    · cases e
  · cases e
theorem serves_pow : Serves X (binaryOp .Pow) powD := by
  intro M H v w x y d Q mh rv rw e q
  unfold powD at e
  split at e
  · split at e
    · rename_i hc
      cases rv
      cases rw
      cases e
      exact ⟨_, op_pow, _, _, rfl, rfl, hc, Post.here (d := .int _) q mh (.int_ _)⟩
    · cases e
  · cases e
theorem rp_dpH (hc : SeqAt.shaped x = true) (mh : Same M H) (r : Rp K M v x) : Dp K H v x := rp_dp (SeqAt.canLay_of_shaped hc) (dp_mono mh _ _ r)
theorem serves_eq (hu : X.A.units + 64 < cLine) : Serves X (compareOp .Eq) eqD := by
  intro M H v w x y d Q mh rv rw e q
  unfold eqD at e
  split at e
  · rename_i hc
    cases e
    exact ⟨_, op_eqD hu, x, y, rp_dpH hc.1 mh rv, rp_dpH hc.2 mh rw, hc.1, hc.2, Post.here (d := .bool _) q mh (.bool_ _)⟩
  · cases e
theorem serves_ne (hu : X.A.units + 64 < cLine) : Serves X (compareOp .NotEq) neD := by
  intro M H v w x y d Q mh rv rw e q
  unfold neD at e
  split at e
  · rename_i hc
    cases e
    exact ⟨_, op_neD hu, x, y, rp_dpH hc.1 mh rv, rp_dpH hc.2 mh rw, hc.1, hc.2, Post.here (d := .bool _) q mh (.bool_ _)⟩
  · cases e
theorem serves_lt : Serves X (compareOp .Lt) ltD := by
  intro M H v w x y d Q mh rv rw e q
  unfold ltD at e
  split at e
  · cases rv
    cases rw
    cases e
    exact ⟨_, op_lt, _, _, rfl, rfl, Post.here (d := .bool _) q mh (.bool_ _)⟩
  · cases e
def rLeD (K : PySem.W.Frag) : R2 := fun x y H Q => ∃ d e, Dp K H x d ∧ Dp K H y e ∧ PySem.W.alike d e = true ∧ d ≠ .none ∧ d.depth ≤ 32 ∧ Q (.bl (!PySem.W.dataLt e d)) H
theorem op_leD (hu : X.A.units + 64 < cLine) : OpR X (compareOp .LtE) (rLeD X.K) := by
  intro pins s σ H x y v u Q I rx ry h
  obtain ⟨d, e, hd, he, ha, hn, hl, q⟩ := h
  obtain ⟨as, r1⟩ := Dp.reads I d x v hd rx
  obtain ⟨bs, r2⟩ := Dp.reads I e y u he ry
  exact PySem.W.le_data r1 r2 ha hn (by omega) ⟨.bl _, H, I, rfl, q⟩
theorem serves_le (hu : X.A.units + 64 < cLine) : Serves X (compareOp .LtE) leD := by
  intro M H v w x y d Q mh rv rw e q
  unfold leD at e
  split at e
  · cases rv
    cases rw
    cases e
    exact ⟨_, op_le, _, _, rfl, rfl, Post.here (d := .bool _) q mh (.bool_ _)⟩
  · split at e
    · rename_i hc
      cases e
      exact ⟨_, op_leD hu, _, _, rp_dpH hc.2.1 mh rv, rp_dpH hc.2.2.1 mh rw, hc.1, (fun z => by cases z), hc.2.2.2, Post.here (d := .bool _) q mh (.bool_ _)⟩
    · cases e
  · cases e
theorem serves_gt : Serves X (compareOp .Gt) gtD := by
  intro M H v w x y d Q mh rv rw e q
  unfold gtD at e
  split at e
  · cases rv
    cases rw
    cases e
    exact ⟨_, op_gt, _, _, rfl, rfl, Post.here (d := .bool _) q mh (.bool_ _)⟩
  · cases e
theorem serves_ge : Serves X (compareOp .GtE) geD := by
  intro M H v w x y d Q mh rv rw e q
  unfold geD at e
  split at e
  · cases rv
    cases rw
    cases e
    exact ⟨_, op_ge, _, _, rfl, rfl, Post.here (d := .bool _) q mh (.bool_ _)⟩
  · cases e
theorem isD_none {b : Bool} (r : Rp K M v x) (ry : Rp K M w y) (e : isD x y = some (.bool b)) : w = .non ∧ decide (v = .non) = b := by
  unfold isD at e
  split at e <;> first | (cases e; cases r; cases ry; exact ⟨rfl, by simp⟩) | cases e
theorem isD_bool (e : isD x y = some d) : ∃ b, d = .bool b := by
  unfold isD at e
  split at e <;> first | (cases e; exact ⟨_, rfl⟩) | cases e
theorem serves_is : Serves X (compareOp .Is) isD := by
  intro M H v w x y d Q mh rv rw e q
  obtain ⟨b, rfl⟩ := isD_bool e
  obtain ⟨rfl, eb⟩ := isD_none rv rw e
  exact ⟨_, op_isN, rfl, by rw [eb]; exact Post.here (d := .bool _) q mh (.bool_ _)⟩
theorem serves_isnot : Serves X (compareOp .IsNot) isnotD := by
  intro M H v w x y d Q mh rv rw e q
  unfold isnotD at e
  split at e
  · rename_i b eb
    cases e
    obtain ⟨rfl, eb⟩ := isD_none rv rw eb
    exact ⟨_, op_notN, rfl, by rw [eb]; exact Post.here (d := .bool _) q mh (.bool_ _)⟩
  · cases e
theorem flatV_of (r : Rp K M v x) (f : flatD x = true) : flatV v = true := by
  cases r <;> first | rfl | cases f
theorem eqV_of (rv : Rp K M v x) (rw : Rp K M w y) (f : flatD x = true) (g : flatD y = true) : eqV v w = PyData.eqv x y := by
  cases rv <;> cases rw <;> first | (simp [eqV, PyData.eqv]; done) | rfl | exact absurd f (by simp [flatD]) | exact absurd g (by simp [flatD])
theorem all_flat : ∀ {vs : List V} {ds : List D}, RpA K M vs ds → ds.all flatD = true → vs.all flatV = true
  | _, _, .nil_, _ => rfl
  | _, _, .cons_ r t, h => by
    rw [List.all_cons, Bool.and_eq_true] at h ⊢
    exact ⟨flatV_of r h.1, all_flat t h.2⟩
theorem inV_of (rv : Rp K M v x) (f : flatD x = true) : ∀ {vs : List V} {ds : List D}, RpA K M vs ds → ds.all flatD = true → inV v vs = ds.any fun y => PyData.eqv y x
  | _, _, .nil_, _ => rfl
  | _, _, .cons_ r t, h => by
    rw [List.all_cons, Bool.and_eq_true] at h
    have ih := inV_of rv f t h.2
    unfold inV at ih ⊢
    rw [List.any_cons, List.any_cons, ih, eqV_of r rv h.1 f]
theorem inD_seq {b : Bool} (mh : Same M H) (rv : Rp K M v x) (rw : Rp K M w y) (hn : ∀ kvs, y ≠ .dict kvs) (e : inD x y = some b) : ∃ p xs, w = .ref p ∧ (SqL K H p xs ∨ SqT K H p xs) ∧ flatV v = true ∧ xs.all flatV = true ∧ inV v xs = b := by
  unfold inD at e
  split at e
  · exact absurd rfl (hn _)
  · split at e
    · rename_i h
      rw [Bool.and_eq_true] at h
      cases e
      cases rw with
      | list_ h1 r1 => exact ⟨_, _, rfl, .inl (.inl (rd_up mh h1)), flatV_of rv h.1, all_flat r1 h.2, inV_of rv h.1 r1 h.2⟩
    · cases e
  · split at e
    · rename_i h
      rw [Bool.and_eq_true] at h
      cases e
      cases rw with
      | tuple_ h1 r1 => exact ⟨_, _, rfl, .inr (seqT_mono mh h1), flatV_of rv h.1, all_flat r1 h.2, inV_of rv h.1 r1 h.2⟩
    · cases e
  · cases e
theorem tailK_mark (r : List (D × D)) : tailK ((.none, .none) :: r) = some r := rfl
theorem tailK_scr : ∀ ns : List Int, tailK (ns.map fun n => (PyData.int n, PyData.none)) = none
  | [] => rfl
  | _ :: _ => rfl
theorem key_of_rp (r : Rp K M v x) (h : isKey x = true) : ∃ k : Key, v = kV k ∧ x = keyD k := by
  cases x <;> first | (cases h; done) | skip
  · rename_i i
    cases r
    exact ⟨.inl i, rfl, rfl⟩
  · rename_i z
    cases r
    exact ⟨.inr z, rfl, rfl⟩
theorem keyEq_of (a b : Key) : keyEq (keyD a) (keyD b) = decide (a = b) := by
  cases a <;> cases b
  · rename_i i j
    show decide (i = j) = decide (Sum.inl i = Sum.inl j)
    by_cases h : i = j
    · subst h; simp
    · rw [decide_eq_false h, decide_eq_false fun z => h (Sum.inl.inj z)]
  · exact (decide_eq_false fun z => nomatch z).symm
  · exact (decide_eq_false fun z => nomatch z).symm
  · rename_i i j
    show decide (i = j) = decide (Sum.inr i = Sum.inr j)
    by_cases h : i = j
    · subst h; simp
    · rw [decide_eq_false h, decide_eq_false fun z => h (Sum.inr.inj z)]
theorem any_key (k : Key) : ∀ ks : List (Key × D), ((ks.map fun p => (keyD p.1, p.2)).any fun p => keyEq p.1 (keyD k)) = (valV (ks.map fun p => (p.1, atV p.2)) k).isSome
  | [] => rfl
  | p :: r => by
    rw [List.map_cons, List.map_cons, List.any_cons, keyEq_of, any_key k r]
    by_cases e : p.1 = k
    · rw [valV_pos (by exact e), decide_eq_true e]
      rfl
    · rw [valV_neg (by exact e), decide_eq_false e, Bool.false_or]
theorem find_key (k : Key) : ∀ ks : List (Key × D), valV (ks.map fun p => (p.1, atV p.2)) k = (((ks.map fun p => (keyD p.1, p.2)).find? fun p => keyEq p.1 (keyD k)).map fun p => atV p.2)
  | [] => rfl
  | p :: r => by
    rw [List.map_cons, List.map_cons, List.find?_cons, keyEq_of]
    by_cases e : p.1 = k
    · rw [valV_pos (by exact e), decide_eq_true e]
      rfl
    · rw [valV_neg (by exact e), decide_eq_false e, find_key k r]
theorem rp_at : ∀ {d : D}, atD d = true → Rp K M (atV d) d
  | .none, _ => .none_
  | .bool b, _ => .bool_ b
  | .int i, _ => .int_ i
  | .str x, _ => .str_ x
/-- what stands in a dict -/
theorem inK_of {kvs : List (D × D)} {b : Bool} (mh : Same M H) (rv : Rp K M v x) (rw_ : Rp K M w (.dict kvs)) (e : inK x kvs = some b) : ∃ a o, w = .ref a ∧ DGet H a v o ∧ b = o.isSome := by
  unfold inK at e
  cases rw_ with
  | scr_ ns h =>
    rw [tailK_scr] at e
    cases e
  | dict_ ks hf h =>
    rw [tailK_mark] at e
    have e : (if isKey x = true then some ((ks.map fun p => (keyD p.1, p.2)).any fun p => keyEq p.1 x) else none) = some b := e
    split at e
    · rename_i hk
      obtain ⟨k, rfl, rfl⟩ := key_of_rp rv hk
      cases e
      exact ⟨_, _, rfl, .inl ⟨_, k, rd_up mh h, rfl, rfl⟩, any_key k ks⟩
    · cases e
def rDIn : R2 := fun x y H Q => ∃ a o, y = .ref a ∧ DGet H a x o ∧ Q (.bl o.isSome) H
def rDNotIn : R2 := fun x y H Q => ∃ a o, y = .ref a ∧ DGet H a x o ∧ Q (.bl (!o.isSome)) H
theorem op_dIn (hu : X.A.units + 1 < cLine) : OpR X (compareOp .In) rDIn := by
  intro pins s σ H x y v u Q I rx ry h
  obtain ⟨a, o, rfl, g, q⟩ := h
  cases ry
  exact d_in hu I g rx fun s3 I3 => ⟨.bl o.isSome, H, I3, rfl, q⟩
theorem op_dNotIn (hu : X.A.units + 1 < cLine) : OpR X (compareOp .NotIn) rDNotIn := by
  intro pins s σ H x y v u Q I rx ry h
  obtain ⟨a, o, rfl, g, q⟩ := h
  cases ry
  exact d_notIn hu I g rx fun s3 I3 => ⟨.bl (!o.isSome), H, I3, rfl, q⟩
theorem serves_in (hu : X.A.units + 64 < cLine) : Serves X (compareOp .In) (opD .isin) := by
  intro M H v w x y d Q mh rv rw e q
  have e : (inD x y).map (fun b => PyData.bool b) = some d := e
  cases h : inD x y with
  | none => rw [h] at e; cases e
  | some b =>
    rw [h] at e
    cases e
    cases y <;> first | (cases h; done) | skip
    case dict kvs =>
      obtain ⟨a, o, rfl, g, rfl⟩ := inK_of mh rv rw h
      exact ⟨_, op_dIn (by omega), a, o, rfl, g, Post.here (d := .bool _) q mh (.bool_ _)⟩
    all_goals
      obtain ⟨p, xs, rfl, hs, h1, h2, h3⟩ := inD_seq mh rv rw (fun _ z => nomatch z) h
      refine ⟨_, op_in_seq, p, xs, rfl, hs, h1, h2, ?_⟩
      rw [if_neg Bool.false_ne_true, h3]
      exact Post.here (d := .bool _) q mh (.bool_ _)
theorem serves_notin (hu : X.A.units + 64 < cLine) : Serves X (compareOp .NotIn) (opD .notin) := by
  intro M H v w x y d Q mh rv rw e q
  have e : (inD x y).map (fun b => PyData.bool (!b)) = some d := e
  cases h : inD x y with
  | none => rw [h] at e; cases e
  | some b =>
    rw [h] at e
    cases e
    cases y <;> first | (cases h; done) | skip
    case dict kvs =>
      obtain ⟨a, o, rfl, g, rfl⟩ := inK_of mh rv rw h
      exact ⟨_, op_dNotIn (by omega), a, o, rfl, g, Post.here (d := .bool _) q mh (.bool_ _)⟩
    all_goals
      obtain ⟨p, xs, rfl, hs, h1, h2, h3⟩ := inD_seq mh rv rw (fun _ z => nomatch z) h
      refine ⟨_, op_notIn_seq, p, xs, rfl, hs, h1, h2, ?_⟩
      rw [if_pos rfl, h3]
      exact Post.here (d := .bool _) q mh (.bool_ _)
end
end PU
set_option backward.match.sparseCases false
namespace PU
open PySem PySem.Spec PyProof.Rows L2

/-- t: a tuple; else a list -/
def SqB (t : Bool) (K : PySem.W.Frag) (H : Hp) (a : Addr) (xs : List V) : Prop := match t with
  | false => SqL K H a xs
  | true => SqT K H a xs
def IsB (t : Bool) (h : Heap) (a : Addr) (its : Array Value) : Prop := match t with
  | false => h.IsList a its
  | true => h.IsTuple a its
def ItB (t : Bool) (h : Heap) (it a : Addr) (i : Nat) : Prop := match t with
  | false => h.IsListIter it a i
  | true => h.IsTupleIter it a i
def obB (t : Bool) (a : Addr) : Obj := match t with
  | false => { cls := .type "list_iterator", data := .fields #[.ref a, .int 0 0] }
  | true => { cls := .type "tuple_iterator", data := .fields #[.ref a, .int 0 0] }
section
variable {X : Cx} {pins : List (Addr × Obj)} {σ : L2.St} {H : Hp} {s : Shared} {a : Addr} {xs ys : List V} {t : Bool}
theorem drawsB {prog : Program} {w : World} {A : Around} (t : Bool) (hh : A.handled = none) (it l : Addr) (hne : l ≠ it) (items : Array Value) : Draws prog w A it [it, l] items.size (fun i v => items[i]? = some v) (fun i h => ItB t h it l i ∧ IsB t h l items) := by
  cases t
  · exact .list hh it l hne items
  · exact .tuple hh it l hne items
theorem beginsB (t : Bool) (l : Addr) (items : Array Value) : Begins (.ref l) (obB t l) fun h => IsB t h l items := by
  cases t
  · exact begins_list l items
  · exact begins_tuple l items
theorem sqB_its (I : Inv X pins σ H s) (h : SqB t X.K H a xs) : ∃ its : List Value, Vals xs its ∧ IsB t s.heap a its.toArray := by
  cases t
  · obtain ⟨its, r, p, _⟩ := I.list h
    exact ⟨its, r, p.isList⟩
  · obtain ⟨its, r, p, _⟩ := I.tuple h
    exact ⟨its, r, p⟩
theorem sqB_inj (I : Inv X pins σ H s) (h : SqB t X.K H a xs) (h' : SqB t X.K H a ys) : xs = ys := by
  cases t
  · exact I.list_inj h h'
  · exact I.tuple_inj h h'
theorem isB_at {h h' : Heap} {its : Array Value} (p : IsB t h a its) (k : ∀ o, h.get? a = some o → h'.get? a = some o) : IsB t h' a its := by
  cases t
  · exact Heap.IsList.at p k
  · exact Heap.IsTuple.at p k
theorem itB_at {h h' : Heap} {it : Addr} {i : Nat} (p : ItB t h it a i) (k : ∀ o, h.get? it = some o → h'.get? it = some o) : ItB t h' it a i := by
  cases t
  · exact Heap.IsListIter.at p k
  · exact Heap.IsTupleIter.at p k
theorem itB_obj {h : Heap} {it : Addr} {i : Nat} (p : ItB t h it a i) : ∃ o, h.get? it = some o ∧ ∀ v, o.data ≠ .cell v := by
  cases t
  · obtain ⟨o, e, _, d⟩ := p
    exact ⟨o, e, fun v q => by rw [d] at q; cases q⟩
  · obtain ⟨o, e, _, d⟩ := p
    exact ⟨o, e, fun v q => by rw [d] at q; cases q⟩
theorem itB_new {h : Heap} {it : Addr} (e : h.get? it = some (obB t a)) : ItB t h it a 0 := by
  cases t
  · exact ⟨_, e, rfl, rfl⟩
  · exact ⟨_, e, rfl, rfl⟩
theorem isB_lt {h : Heap} {its : Array Value} (p : IsB t h a its) : a < h.objs.size := by
  cases t
  · obtain ⟨o, e, _⟩ := p
    exact Heap.lt_size e
  · obtain ⟨o, e, _⟩ := p
    exact Heap.lt_size e
/-- what stands at a and b at each turn, the items in new pairs -/
def ItzB (t u : Bool) (K : PySem.W.Frag) (a b : Addr) : It :=
  ⟨fun i H => ∃ (xs ys : List V) (x y : V), SqB t K H a xs ∧ SqB u K H b ys ∧ xs[i]? = some x ∧ ys[i]? = some y,
    fun i H v H' => ∃ T x y, v = .ref T ∧ H T = none ∧ H' = upd H T (.tup [x, y]) ∧ (∀ xs, SqB t K H a xs → xs[i]? = some x) ∧ ∀ ys, SqB u K H b ys → ys[i]? = some y,
    fun i H => ∃ xs ys : List V, SqB t K H a xs ∧ SqB u K H b ys ∧ i = min xs.length ys.length⟩
theorem five {z TI TO i1 i2 c : Addr} (h : c ∈ [z, TI, TO, i1, i2]) : c = z ∨ c = TI ∨ c = TO ∨ c = i1 ∨ c = i2 := by simpa using h
theorem turn_zipB {P : Program} {w : World} {K : PySem.W.Frag} {elts : List Expr} {kk : Nat} {tpos : Pos} {t u : Bool} {a b z TI TO i1 i2 : Addr} (S : ZipSep2 z TI TO i1 i2 [i1, a] [i2, b]) (ha : a ≠ i1) (hb : b ≠ i2) :
    Turn P w K (.Tuple elts kk tpos) (ItzB t u K a b) [z, TI, TO, i1, i2] z (fun i h => IsZip h z TI TO .none ∧ IsTupOf2 h TI (.ref i1) (.ref i2) ∧ (∃ x y, IsTupOf2 h TO x y) ∧ ItB t h i1 a i ∧ ItB u h i2 b i) where
  mem := by simp
  obj := fun i h st c hc => by
    obtain ⟨hz, hTI, ⟨x, y, hTO⟩, h1, h2⟩ := st
    rcases five hc with q | q | q | q | q <;> subst q
    · exact ⟨_, hz, fun v q => nomatch q⟩
    · exact ⟨_, hTI, fun v q => nomatch q⟩
    · exact ⟨_, hTO, fun v q => nomatch q⟩
    · exact itB_obj h1
    · exact itB_obj h2
  keep := fun i h h' st k => by
    obtain ⟨hz, hTI, ⟨x, y, hTO⟩, h1, h2⟩ := st
    exact ⟨k z (by simp) _ hz, k TI (by simp) _ hTI, ⟨x, y, k TO (by simp) _ hTO⟩, itB_at h1 fun o q => k i1 (by simp) o q, itB_at h2 fun o q => k i2 (by simp) o q⟩
  item := by
    intro X hP hw hK hc i pins s σ H E I hf st hg
    subst hP hw hK
    obtain ⟨xs, ys, x, y, hqx, hqy, hx, hy⟩ := hg
    obtain ⟨its, rv, p⟩ := sqB_its I hqx
    obtain ⟨its2, rv2, p2⟩ := sqB_its I hqy
    obtain ⟨v1, hv1, r1⟩ := rv.get hx
    obtain ⟨v2, hv2, r2⟩ := rv2.get hy
    have live : ∀ c ∈ [z, TI, TO, i1, i2], c < s.heap.objs.size := fun c hcm => by
      obtain ⟨hz, hTI, ⟨_, _, hTO⟩, h1, h2⟩ := st
      rcases five hcm with q | q | q | q | q <;> subst q
      · exact Heap.lt_size hz
      · exact Heap.lt_size hTI
      · exact Heap.lt_size hTO
      · obtain ⟨_, e, _⟩ := itB_obj h1
        exact Heap.lt_size e
      · obtain ⟨_, e, _⟩ := itB_obj h2
        exact Heap.lt_size e
    have hn1 : i < its.length := (List.getElem?_eq_some_iff.mp hv1).1
    have hn2 : i < its2.length := (List.getElem?_eq_some_iff.mp hv2).1
    have W := GoesN.zip2 (prog := X.prog) (w := X.w) (A := X.A) (elts := elts) (x1 := kk) (pos := tpos) S (drawsB (A := X.A.in1) t (I.ok.hd hc) i1 a ha its.toArray) (drawsB (A := X.A.in1) u (I.ok.hd hc) i2 b hb its2.toArray)
    refine W.goes i s (fun v s2 => ∃ x H', Inv X pins σ H' s2 ∧ RelV x v ∧ (ItzB t u X.K a b).yld i H x H' ∧ (IsZip s2.heap z TI TO .none ∧ IsTupOf2 s2.heap TI (.ref i1) (.ref i2) ∧ (∃ x y, IsTupOf2 s2.heap TO x y) ∧ ItB t s2.heap i1 a (i + 1) ∧ ItB u s2.heap i2 b (i + 1)) ∧ ∀ b ∈ [z, TI, TO, i1, i2], H' b = none) E (by simp only [List.size_toArray]; omega) ⟨st.1, st.2.1, st.2.2.1, ⟨st.2.2.2.1, p⟩, ⟨st.2.2.2.2, p2⟩⟩ fun v h' tk hY st' hk htk => ?_
    obtain ⟨T, w1, w2, rfl, hT, e1, e2, hIs⟩ := hY
    have e1 : its[i]? = some w1 := by simpa using e1
    have e2 : its2[i]? = some w2 := by simpa using e2
    rw [hv1] at e1
    rw [hv2] at e2
    cases e1
    cases e2
    have new : ObjOk X.prog X.w (upd H T (.tup [x, y])) h' T (.tup [x, y]) := ⟨by show 2 ≤ sizeLine; decide, [v1, v2], .cons r1 (.cons r2 .nil), hIs⟩
    have I1 : Inv X pins σ (upd H T (.tup [x, y])) { s with heap := h', toks := tk } :=
      I.turnedNew (t' := tk) (ch := [z, TI, TO, i1, i2]) (fun c o hb q => hk c o (fun m => hb (by
        have : c = z ∨ c = TO ∨ c = i1 ∨ c = i2 := by simpa using m
        rcases this with q | q | q | q <;> simp [q])) q) hf hT new
    refine ⟨.ref T, _, I1, rfl, ⟨T, x, y, rfl, I.hok.fresh hT, rfl, fun l hl => by rw [sqB_inj I hl hqx]; exact hx, fun l hl => by rw [sqB_inj I hl hqy]; exact hy⟩, ⟨st'.1, st'.2.1, st'.2.2.1, st'.2.2.2.1.1, st'.2.2.2.2.1⟩, fun c hcm => ?_⟩
    rw [upd_ne (Nat.ne_of_lt (Nat.lt_of_lt_of_le (live c hcm) hT))]
    exact (hf c hcm).1
  done := by
    intro X hP hw hK hc i pins s σ H E I hf st hg
    subst hP hw hK
    obtain ⟨xs, ys, hqx, hqy, rfl⟩ := hg
    obtain ⟨its, rv, p⟩ := sqB_its I hqx
    obtain ⟨its2, rv2, p2⟩ := sqB_its I hqy
    have W := GoesN.zip2 (prog := X.prog) (w := X.w) (A := X.A) (elts := elts) (x1 := kk) (pos := tpos) S (drawsB (A := X.A.in1) t (I.ok.hd hc) i1 a ha its.toArray) (drawsB (A := X.A.in1) u (I.ok.hd hc) i2 b hb its2.toArray)
    have hn : min xs.length ys.length = min its.toArray.size its2.toArray.size := by rw [List.size_toArray, List.size_toArray, rv.length, rv2.length]
    rw [hn] at st
    refine wpAny_mono (W.stops s (fun s1 => Inv X pins σ H s1) E ⟨st.1, st.2.1, st.2.2.1, ⟨st.2.2.2.1, p⟩, ⟨st.2.2.2.2, p2⟩⟩ fun h' tk hk htk => ?_) (fun _ _ h => h) fun _ _ h => h
    exact I.turnedL (t' := tk) (ch := [z, TI, TO, i1, i2]) (fun c o hb q => hk c o (fun m => hb (by
      have : c = z ∨ c = TO ∨ c = i1 ∨ c = i2 := by simpa using m
      rcases this with q | q | q | q <;> simp [q])) q) hf
  self := fun A i s Q E st h => wpAny_pyIter_zip st.1 h
end
def iZipB (K : PySem.W.Frag) (t u : Bool) (ta : TA) : TI := fun σ H R => ta σ H fun vs H1 => ∃ a b xs ys, vs = [.ref a, .ref b] ∧ SqB t K H1 a xs ∧ SqB u K H1 b ys ∧ R (ItzB t u K a b) H1
theorem pi_zipB {X : Cx} {e e2 : Expr} {ta : TA} {p pos tpos : Pos} {elts : List Expr} {kk : Nat} (t u : Bool) (hg : Gl X "zip") (hm : X.mg "zip" = none) (ha : PA X [e, e2] ta)
    (hs : starEach [e, e2] X.env = (false, eval e X.env) :: starEach [e2] X.env) (hpl : (backTo pos (starEach [e2] X.env)).any (·.1) = false) :
    PI X (.Tuple elts kk tpos) (.Call (.Name "zip" p) [e, e2] [] pos) (iZipB X.K t u ta) := by
  refine ⟨fun pins s σ H R I h => ?_⟩
  refine Call_ (ld_blt I hg hm PyProof.Rows.boot_zip (PyProof.Rows.callWith_type1 (thn (ha.run pos pins s σ H _ I h) fun us s1 ⟨vs, H1, I1, r1, q1⟩ => ?_) hs hpl))
  obtain ⟨a, b, xs, ys, rfl, hqx, hqy, q⟩ := q1
  cases r1 with
  | cons r rr =>
    cases rr with
    | cons r' rr =>
      cases rr
      cases r
      cases r'
      obtain ⟨its, rv, p1⟩ := sqB_its I1 hqx
      obtain ⟨its2, rv2, p2⟩ := sqB_its I1 hqy
      have la := isB_lt p1
      have lb := isB_lt p2
      refine zip_begins2 (beginsB t a its.toArray) (beginsB u b its2.toArray) p1 p2 fun h' hz hTI hTO h1 h2 hsz hk => wpAny_pyIter_zip hz ?_
      have I2 : Inv X pins σ H1 { s1 with heap := h' } := I1.kept (t' := s1.toks) hk
      have S := zip_sep2 (N := s1.heap.objs.size) (fp1 := [a]) (fp2 := [b]) (fun c hc => by rw [List.mem_singleton.mp hc]; exact la) (fun c hc => by rw [List.mem_singleton.mp hc]; exact lb)
      refine ⟨s1.heap.objs.size + 4, [s1.heap.objs.size + 4, s1.heap.objs.size + 2, s1.heap.objs.size + 3, s1.heap.objs.size, s1.heap.objs.size + 1], _, _, H1, rfl, I2, turn_zipB S (Nat.ne_of_lt la) (Nat.ne_of_lt (Nat.lt_succ_of_lt lb)), ⟨hz, hTI, ⟨_, _, hTO⟩, itB_new h1, itB_new h2⟩, fun c hcm => ?_, q⟩
      have hle : s1.heap.objs.size ≤ c := by
        rcases five hcm with z | z | z | z | z <;> subst z
        · exact Nat.le_add_right _ _
        · exact Nat.le_add_right _ _
        · exact Nat.le_add_right _ _
        · exact Nat.le_refl _
        · exact Nat.le_add_right _ _
      exact I1.fpOk hle (I1.hok.fresh hle)
end PU
set_option backward.match.sparseCases false
namespace PU
open PySem PySem.Spec PyProof.Rows L2

section
variable {prog : Program} {w : World} {A : Around} {E : Value → Shared → Prop} {s : Shared}
theorem star_end {its : List Value} {i : Nat} {I ax : Addr} {T : String} {St : Nat → Heap → Prop} {h₁ : Heap} {Q : List Value → Shared → Prop} (hTm : T = "str_ascii_iterator" ∨ T = "str_iterator" ∨ T = "list_iterator" ∨ T = "tuple_iterator")
    (W : PySem.Walks prog w A.in1 I [I, ax] [I] its.toArray.size (fun i v => its.toArray[i]? = some v) St) (hT : ∀ j (u : Shared), St j u.heap → u.TypeIs (.ref I) T) (hi : i ≤ its.length) (hst : St i h₁) (hI : I < h₁.objs.size) (hax : ax < h₁.objs.size) (hz : its.length ≤ sizeLine)
    (hI0 : s.heap.objs.size ≤ I) (hk₁ : ∀ b o, s.heap.get? b = some o → h₁.get? b = some o)
    (h : ∀ (h' : Heap) (tk : Nat), (∀ b o, s.heap.get? b = some o → h'.get? b = some o) → Q (its.take i ++ [.ref h'.objs.size]) { s with heap := h'.push { cls := .type "list", data := .seq (its.drop i).toArray }, toks := tk }) :
    wpAny (model prog w) A (show Sem (List Value) from do
      let rest ← holding (its.take i) (collect (.ref I))
      let after := i + 1 - 1 - i
      if rest.length < after then
        rule "unpack.star.too-few"
        raiseError "ValueError" s!"not enough values to unpack (expected at least {i + 1 - 1}, got {i + rest.length})"
      let mid := rest.length - after
      return its.take i ++ [← newList (rest.take mid)] ++ rest.drop mid) Q E { s with heap := h₁ } := by
  have hsz : its.toArray.size = its.length := List.size_toArray ..
  refine wpAny_bind (wpAny_holding (PySem.W.kun_collect (s := { s with heap := h₁ }) (items := its.toArray) (k := i) hTm W hT (by omega) hst hI hax (fun h₂ tk hk => ?_) (by omega)))
  have e0 : i + 1 - 1 - i = 0 := by omega
  show wpAny _ _ (if (its.toArray.toList.drop i).length < i + 1 - 1 - i then _ else _) _ _ _
  rw [e0, if_neg (Nat.not_lt_zero _)]
  show wpAny _ _ (newList ((its.drop i).take ((its.drop i).length - 0)) >>= fun d => pure (its.take i ++ [d] ++ (its.drop i).drop ((its.drop i).length - 0))) _ _ _
  rw [Nat.sub_zero, List.take_length, List.drop_length]
  refine wpAny_bind (wpAny_newList (wpAny_pure ?_) (by rw [List.length_drop]; omega))
  rw [List.append_nil]
  exact h h₂ tk fun b o q => hk b o (Nat.ne_of_lt (Nat.lt_of_lt_of_le (Heap.lt_size q) hI0)) (hk₁ b o q)
theorem star_list {l : Addr} {its : List Value} {i : Nat} {Q : List Value → Shared → Prop} (hl : s.heap.IsList l its.toArray) (hh : A.handled = none) (hi : i ≤ its.length) (hz : its.length ≤ sizeLine)
    (h : ∀ (h' : Heap) (tk : Nat), (∀ b o, s.heap.get? b = some o → h'.get? b = some o) → Q (its.take i ++ [.ref h'.objs.size]) { s with heap := h'.push { cls := .type "list", data := .seq (its.drop i).toArray }, toks := tk }) :
    wpAny (model prog w) A (unpackItems (.ref l) (i + 1) (some i)) Q E s := by
  have hll : l < s.heap.objs.size := isB_lt (t := false) hl
  have hsz : its.toArray.size = its.length := List.size_toArray ..
  unfold unpackItems
  refine wpAny_bind ?_
  unfold notIterableAtAll
  refine wpAny_bind (wpAny_specialOf hl.typeIs slot_list_iter.lookup (wpAny_pure ?_))
  simp only [Bool.false_eq_true, if_false]
  refine wpAny_bind (wpAny_holding (wpAny_pyIter_list hl ?_))
  refine wpAny_bind (wpAny_holding (PySem.W.kun_draw (Nat.ne_of_lt hll) i 0 _ _ ⟨_, Heap.get?_push_size _ rfl, rfl, rfl⟩ (hl.push _) (by omega) fun h₁ hit₁ hs₁ => ?_))
  rw [Nat.zero_add] at hit₁
  have hl₁ : h₁.IsList l its.toArray := (hl.push _).extBut hs₁.extBut (Nat.ne_of_lt hll)
  obtain ⟨oi, hoi, _⟩ := id hit₁
  obtain ⟨ol, hol, _⟩ := id hl₁
  have e1 : its.toArray.toList.length = its.length := by simp
  rw [List.drop_zero, if_neg (by rw [List.length_take]; omega)]
  exact star_end (s := s) (T := "list_iterator") (.inr (.inr (.inl rfl))) (Walks.list (A := A.in1) hh s.heap.objs.size l (Nat.ne_of_lt hll) its.toArray) (fun j u st => st.1.typeIs) hi ⟨hit₁, hl₁⟩ (Heap.lt_size hoi) (Heap.lt_size hol) hz (Nat.le_refl _)
    (fun b o (q : s.heap.get? b = some o) => hs₁.extBut b o (Nat.ne_of_lt (Heap.lt_size q)) (Heap.get?_push_of_some _ q)) h
theorem star_tup {l : Addr} {its : List Value} {i : Nat} {Q : List Value → Shared → Prop} (hl : IsTup s.heap l its.toArray) (hh : A.handled = none) (hi : i ≤ its.length) (hz : its.length ≤ sizeLine)
    (h : ∀ (h' : Heap) (tk : Nat), (∀ b o, s.heap.get? b = some o → h'.get? b = some o) → Q (its.take i ++ [.ref h'.objs.size]) { s with heap := h'.push { cls := .type "list", data := .seq (its.drop i).toArray }, toks := tk }) :
    wpAny (model prog w) A (unpackItems (.ref l) (i + 1) (some i)) Q E s := by
  have hll : l < s.heap.objs.size := isB_lt (t := true) hl
  have hsz : its.toArray.size = its.length := List.size_toArray ..
  unfold unpackItems
  refine wpAny_bind ?_
  unfold notIterableAtAll
  refine wpAny_bind (wpAny_specialOf hl.typeIs slot_tuple_iter.lookup (wpAny_pure ?_))
  simp only [Bool.false_eq_true, if_false]
  refine wpAny_bind (wpAny_holding (iter_tuple hl ?_))
  refine wpAny_bind (wpAny_holding (draw_tuple (Nat.ne_of_lt hll) i 0 _ _ ⟨_, Heap.get?_push_size _ rfl, rfl, rfl⟩ (hl.push _) (by omega) fun h₁ hit₁ hs₁ => ?_))
  rw [Nat.zero_add] at hit₁
  have hl₁ : IsTup h₁ l its.toArray := (hl.push _).extBut hs₁.extBut (Nat.ne_of_lt hll)
  obtain ⟨oi, hoi, _⟩ := id hit₁
  obtain ⟨ol, hol, _⟩ := id hl₁
  have e1 : its.toArray.toList.length = its.length := by simp
  rw [List.drop_zero, if_neg (by rw [List.length_take]; omega)]
  exact star_end (s := s) (T := "tuple_iterator") (.inr (.inr (.inr rfl))) (Walks.tuple (A := A.in1) hh s.heap.objs.size l (Nat.ne_of_lt hll) its.toArray) (fun j u st => st.1.typeIs) hi ⟨hit₁, hl₁⟩ (Heap.lt_size hoi) (Heap.lt_size hol) hz (Nat.le_refl _)
    (fun b o (q : s.heap.get? b = some o) => hs₁.extBut b o (Nat.ne_of_lt (Heap.lt_size q)) (Heap.get?_push_of_some _ q)) h
end
/-- (a, b, *c) = a list or a tuple -/
def gStar (K : PySem.W.Frag) (n : Nat) (t : TGs) : TG := fun v σ H Q => ∃ (u : Bool) (a : Addr) (xs : List V), v = .ref a ∧ SqB u K H a xs ∧ n ≤ xs.length ∧ xs.length ≤ sizeLine ∧ ∀ p, H p = none → t (xs.take n ++ [.ref p]) σ (upd H p (.lst (xs.drop n))) Q
theorem pg_star {X : Cx} {es fs : List Expr} {k : Nat} {pos : Pos} {t : TGs} {n : Nat} (hc : X.calm = true) (h : PGs X fs t) (hn : (assignEach es X.env).length = n + 1) (hst : (assignEach es X.env).findIdx? (·.1) = some n) (he : (assignEach es X.env).map (·.2) = (assignEach fs X.env).map (·.2)) :
    PG X (.Tuple es k pos) (gStar X.K n t) := by
  refine ⟨fun pins s σ H v u Q I r hw => ?_⟩
  obtain ⟨b, a, xs, rfl, hq, hl, hz, hw⟩ := hw
  cases r
  have fin : ∀ (its : List Value) (h' : Heap) (tk : Nat), Vals xs its → (∀ b o, s.heap.get? b = some o → h'.get? b = some o) → wpAny (model X.prog X.w) X.A (assignInOrder ((assignEach es X.env).map (·.2)) (its.take n ++ [.ref h'.objs.size])) (fun _ s' => ∃ σ' H', Inv X pins σ' H' s' ∧ Q σ' H') X.xe
      { s with heap := h'.push { cls := .type "list", data := .seq (its.drop n).toArray }, toks := tk } := fun its h' tk rv hk => by
    have I1 : Inv X pins σ H { s with heap := h', toks := tk } := I.kept hk
    have hd : (xs.drop n).length ≤ sizeLine := by rw [List.length_drop]; omega
    have I2 := Inv.lnew (t' := tk) I1 (rv.drop n) hd
    rw [he]
    exact h.run pins _ σ _ _ _ Q I2 (Vals.append (rv.take n) (.cons (show RelV (.ref h'.objs.size) (.ref h'.objs.size) from rfl) .nil)) (hw _ I1.fresh)
  rw [assign_Tuple]
  refine wpAny_bind (wpAny_standAt ?_)
  unfold unpack
  rw [hn, hst]
  cases b with
  | false =>
    obtain ⟨its, rv, p, _⟩ := I.list hq
    exact wpAny_bind (wpAny_holding (star_list p.isList (I.ok.hd hc) (by rw [← rv.length]; exact hl) (by rw [← rv.length]; exact hz) fun h' tk hk => fin its h' tk rv hk))
  | true =>
    obtain ⟨its, rv, p, _⟩ := I.tuple hq
    exact wpAny_bind (wpAny_holding (star_tup p (I.ok.hd hc) (by rw [← rv.length]; exact hl) (by rw [← rv.length]; exact hz) fun h' tk hk => fin its h' tk rv hk))
end PU
set_option backward.match.sparseCases false
namespace PU
open PySem PySem.Spec PyProof.Rows L2

def ixK (kvs : List (D × D)) (y : D) : Option D := match tailK kvs with
  | some r => if isKey y then (r.find? fun p => keyEq p.1 y).map (·.2) else none
  | none => match y with
    | .int i => (atI kvs i).map (·.1)
    | _ => none
def ixD : D → D → Option D
  | .list xs, .int i => atI xs i
  | .tuple xs, .int i => atI xs i
  | .dict kvs, y => ixK kvs y
  | .str z, .int i => if z.length ≤ lim then (atI z.cps.toList i).map fun c => .str ⟨#[c]⟩ else none
  | _, _ => none
def cutD (xs : List D) (lo hi : Option Int) : List D := (xs.drop (HT.sIx xs.length 0 lo)).take (HT.sIx xs.length xs.length hi - HT.sIx xs.length 0 lo)
def slD : D → Option Int → Option Int → Option D
  | .list xs, lo, hi => some (.list (cutD xs lo hi))
  | .tuple xs, lo, hi => some (.tuple (cutD xs lo hi))
  | .str z, lo, hi => if z.length ≤ lim then some (.str (cutS z lo hi)) else none
  | _, _, _ => none
def truD : D → Option Bool
  | .none => some false
  | .bool b => some b
  | .int i => some (i != 0)
  | .str z => if z.length ≤ lim then some ((z.length : Int) != 0) else none
  | .list xs => some (!xs.isEmpty)
  | .tuple xs => some (!xs.isEmpty)
  | .dict _ => none

section
variable {X : Cx} {K : PySem.W.Frag} {M H : Hp} {v w : V} {x y d : D} {Q : VK}
theorem at_rpa {vs : List V} {ds : List D} {i : Int} (r : RpA K M vs ds) (h : atI ds i = some d) : ∃ v, atI vs i = some v ∧ Rp K M v d := by
  unfold atI at h ⊢
  rw [rpa_len r]
  cases e : ixN ds.length i with
  | none => rw [e] at h; cases h
  | some j =>
    rw [e] at h
    exact dpa_get r h
def rIxDc : R2 := fun x y H Q => ∃ a v, x = .ref a ∧ DGet H a y (some v) ∧ Q v H
theorem ix_dct (hu : X.A.units + 64 < cLine) : IxR X rIxDc := by
  intro value slice pins s σ H x y v u Q I rx ry h hs
  obtain ⟨a, z, rfl, g, q⟩ := h
  cases rx
  exact tail_any (dict_typeIs I g) slot_dict_getitem.lookup (d_getItem (by omega) I g ry fun w' s' I' r' => ⟨z, H, I', r', q⟩) hs
theorem serves_ix (hu : X.A.units + 64 < cLine) (mh : Same M H) (rv : Rp X.K M v x) (rw_ : Rp X.K M w y) (e : ixD x y = some d) (q : Post X.K M H d Q) : WIx X v w H Q := by
  unfold ixD at e
  split at e
  · cases rv with
    | list_ h1 r1 =>
      cases rw_
      obtain ⟨u, h2, r2⟩ := at_rpa r1 e
      exact ⟨_, ix_list, _, _, _, u, rfl, rfl, .inl (rd_up mh h1), h2, q.here mh r2⟩
  · cases rv with
    | tuple_ h1 r1 =>
      cases rw_
      obtain ⟨u, h2, r2⟩ := at_rpa r1 e
      exact ⟨_, ix_tup, _, _, _, u, rfl, rfl, seqT_mono mh h1, h2, q.here mh r2⟩
  · unfold ixK at e
    cases rv with
    | scr_ ns h1 =>
      rw [tailK_scr] at e
      cases rw_ <;> first | (cases e; done) | skip
      rename_i i
      have e : (atI (ns.map fun n => (PyData.int n, PyData.none)) i).map (·.1) = some d := e
      unfold atI at e
      rw [List.length_map] at e
      cases hj : ixN ns.length i with
      | none => simp only [hj] at e; cases e
      | some j =>
        simp only [hj, Option.bind_some, List.getElem?_map] at e
        cases hn : ns[j]? with
        | none => rw [hn] at e; cases e
        | some n =>
          rw [hn] at e
          cases e
          refine ⟨_, ix_list, _, _, _, .int n, rfl, rfl, mh.seq h1, ?_, q.here mh (.int_ _)⟩
          unfold atI
          rw [List.length_map, hj]
          show (ns.map V.int)[j]? = _
          rw [List.getElem?_map, hn]
          rfl
    | dict_ ks hf h1 =>
      rw [tailK_mark] at e
      have e : (if isKey y = true then ((ks.map fun p => (keyD p.1, p.2)).find? fun p => keyEq p.1 y).map (·.2) else none) = some d := e
      split at e
      · rename_i hk
        obtain ⟨k, rfl, rfl⟩ := key_of_rp rw_ hk
        obtain ⟨p, hp, rfl⟩ := Option.map_eq_some_iff.mp e
        have hm := List.mem_of_find?_eq_some hp
        obtain ⟨p0, hp0, rfl⟩ := List.mem_map.mp hm
        have ha := List.all_eq_true.mp hf p0 hp0
        refine ⟨_, ix_dct hu, _, _, rfl, .inl ⟨_, k, rd_up mh h1, rfl, ?_⟩, q.here mh (rp_at ha)⟩
        rw [find_key, hp]
        rfl
      · cases e
  · split at e
    · rename_i z i hl
      cases rv
      cases rw_
      cases h : atI z.cps.toList i with
      | none => rw [h] at e; cases e
      | some c =>
        rw [h] at e
        cases e
        exact ⟨_, ix_str, z, i, c, rfl, rfl, Nat.le_trans hl lim_line, h, q.here mh (.str_ _)⟩
    · cases e
  · cases e
theorem cut_rpa {vs : List V} {ds : List D} {lo hi : Option Int} (r : RpA K M vs ds) : RpA K M (cutV vs lo hi) (cutD ds lo hi) := by
  unfold cutV cutD
  rw [rpa_len r]
  exact dpa_take _ (dpa_drop _ r)
theorem cut_whole {ds : List D} {lo hi : Option Int} (h : HT.sIx ds.length 0 lo = 0 ∧ HT.sIx ds.length ds.length hi = ds.length) : cutD ds lo hi = ds := by
  unfold cutD
  rw [h.1, h.2, List.drop_zero, Nat.sub_zero]
  exact List.take_length
theorem serves_sl {lo hi : Option Int} (mh : Same M H) (rv : Rp X.K M v x) (e : slD x lo hi = some d) (q : PostM X.K M H d Q) : WSl X v lo hi H Q := by
  unfold slD at e
  split at e
  · cases rv with
    | list_ h1 r1 =>
      cases e
      refine ⟨_, sl_list, _, _, rfl, .inl (rd_up mh h1), fun p hp => ?_⟩
      exact (show PostF X.K M H _ Q from q) p _ M _ hp (mh.free hp) (Stp.mine mh hp) upd_same (cut_rpa r1)
  · cases rv with
    | tuple_ h1 r1 =>
      cases e
      refine ⟨_, sl_tupA, _, _, rfl, seqT_mono mh h1, fun z => ?_, fun _ p hp => ?_⟩
      · rw [rpa_len r1] at z
        refine Post.here (d := .tuple _) q mh (.tuple_ h1 ?_)
        rw [cut_whole z]
        exact r1
      · exact (show Post X.K M H (.tuple _) Q from q) _ _ _ (Stp.laid mh hp) (.tuple_ (.inl (.inl upd_same)) (dpa_mono (Stp.laid mh hp).m _ _ (cut_rpa r1)))
  · split at e
    · rename_i hl
      cases rv
      cases e
      exact ⟨_, sl_str, _, rfl, Nat.le_trans hl lim_line, Post.here (d := .str _) q mh (.str_ _)⟩
    · cases e
  · cases e
theorem tru_of {b : Bool} (mh : Same M H) (rv : Rp K M v x) (e : truD x = some b) : TruV K v H b := by
  unfold truD at e
  cases rv with
  | none_ => cases e; exact rfl
  | bool_ b => cases e; exact rfl
  | int_ i => cases e; exact rfl
  | str_ z =>
    have e : (if z.length ≤ lim then some ((z.length : Int) != 0) else none) = some b := e
    split at e
    · rename_i hl
      cases e
      exact ⟨Nat.le_trans hl lim_line, rfl⟩
    · cases e
  | list_ h r =>
    cases e
    refine .inl ⟨_, .inl (rd_up mh h), ?_⟩
    cases r <;> rfl
  | scr_ _ _ => cases e
  | dict_ _ _ _ => cases e
  | tuple_ h r =>
    cases e
    refine .inr (.inl ⟨_, seqT_mono mh h, ?_⟩)
    cases r <;> rfl
end

section
variable {X : Cx} {env : DE} {pos : Pos} {a b c e : Expr} {x y d : D}
def EVM (X : Cx) (e : Expr) (env : DE) (d : D) : Prop := ∀ σ M H Q, Sl X.K M σ env → Same M H → PostM X.K M H d Q → WE X e σ H Q
theorem EVM.ev (h : EVM X e env d) : EV X e env d := fun σ M H Q s mh q => h σ M H Q s mh q.m
theorem EV.run (h : EV X e env d) {σ : L2.St} {M H : Hp} {Q : VK} (s : Sl X.K M σ env) (mh : Same M H) (k : ∀ v M' H', Stp M H M' H' → Sl X.K M' σ env → Rp X.K M' v d → Q v H') : WE X e σ H Q :=
  h σ M H Q s mh fun v M' H' st r => k v M' H' st (s.mono st.m) r
theorem ev_var {i : Nat} {n : Str} (hN : X.N[i]? = some n) (hv : Vis X.env.scope n) (h1 : (n == ("__debug__" : Str)) = false) (h2 : (n == ("__classdict__" : Str)) = false) (h : env[i]? = some (some d)) : EV X (.Name n pos) env d := by
  intro σ M H Q s mh q
  obtain ⟨v, e1, r⟩ := s.at_ i d h
  exact ⟨_, pe_var hN hv h1 h2, v, e1, q.here mh r⟩
theorem ev_int {i : Int} {k : Nat} : EV X (.Constant (.int i) k pos) env (.int i) := fun σ M H Q s mh q => ⟨_, pe_int, q.here mh (.int_ i)⟩
theorem ev_bool {b : Bool} {k : Nat} : EV X (.Constant (.bool b) k pos) env (.bool b) := fun σ M H Q s mh q => ⟨_, pe_bl, q.here mh (.bool_ b)⟩
theorem ev_none {k : Nat} : EV X (.Constant .none k pos) env .none := fun σ M H Q s mh q => ⟨_, pe_non, q.here mh .none_⟩
theorem ev_str {z : Str} {k : Nat} : EV X (.Constant (.str z) k pos) env (.str z) := fun σ M H Q s mh q => ⟨_, pe_str, q.here mh (.str_ z)⟩
theorem run2 {f : V → V → Hp → VK → Prop} {σ : L2.St} {M H : Hp} {Q : VK} (ha : EV X a env x) (hb : EV X b env y) (s : Sl X.K M σ env) (mh : Same M H) (k : ∀ v w M' H', Stp M H M' H' → Rp X.K M' v x → Rp X.K M' w y → f v w H' Q) :
    tOp f (WE X a) (WE X b) σ H Q := by
  refine ha.run s mh fun v M1 H1 st1 s1 r1 => ?_
  refine hb.run s1 st1.mh fun w M2 H2 st2 s2 r2 => ?_
  exact k v w M2 H2 (st1.trans st2) (dp_mono st2.m _ _ r1) r2
theorem ev_bin {o : Operator} {g : D → D → Option D} (hs : Serves X (binaryOp o) g) (ha : EV X a env x) (hb : EV X b env y) (h : g x y = some d) : EVM X (.BinOp a o b pos) env d := fun σ M H Q s mh q =>
  ⟨_, pe_op op_w pe_w pe_w, run2 ha hb s mh fun _ _ _ _ st r1 r2 => hs st.mh r1 r2 h (q.step st)⟩
theorem ev_cmp {o : CmpOp} {g : D → D → Option D} (hs : Serves X (compareOp o) g) (hm : behindInMarks o b = false) (ha : EV X a env x) (hb : EV X b env y) (h : g x y = some d) : EVM X (.Compare a [o] [b] pos) env d := fun σ M H Q s mh q =>
  ⟨_, pe_cmpR op_w pe_w pe_w hm, run2 ha hb s mh fun _ _ _ _ st r1 r2 => hs st.mh r1 r2 h (q.step st)⟩
theorem et_cmp {o : CmpOp} {g : D → D → Option D} {t : Bool} (hs : Serves X (compareOp o) g) (hm : behindInMarks o b = false) (ha : EV X a env x) (hb : EV X b env y) (h : g x y = some (.bool t)) : EVT X (.Compare a [o] [b] pos) env t := fun σ M H Q s mh q =>
  ⟨_, pt_cmpR op_w pe_w pe_w hm, run2 (Q := fun z H' => ∃ k, z = .bl k ∧ Q k H') ha hb s mh fun _ _ M' H' st r1 r2 => hs st.mh r1 r2 h fun v M2 H2 st2 r => by
    cases r
    exact ⟨t, rfl, q M2 H2 (st.trans st2)⟩⟩
theorem ev_neg {i : Int} (ha : EV X a env (.int i)) : EV X (.UnaryOp .USub a pos) env (.int (-i)) := fun σ M H Q s mh q =>
  ⟨_, pe_un un_neg pe_w, ha.run s mh fun v M1 H1 st s1 r => by
    cases r
    exact ⟨i, rfl, (q.step st).here st.mh (.int_ _)⟩⟩
theorem ev_not {t : Bool} (ha : EV X a env (.bool t)) : EV X (.UnaryOp .Not a pos) env (.bool (!t)) := fun σ M H Q s mh q =>
  ⟨_, pe_not pe_w, ha.run s mh fun v M1 H1 st s1 r => by
    cases r
    exact ⟨t, rfl, (q.step st).here st.mh (.bool_ _)⟩⟩
theorem ev_one {o : BoolOp} (ha : EV X a env d) : EV X (.BoolOp o [a] pos) env d := fun σ M H Q s mh q => ⟨_, pe_one pe_w, ha σ M H Q s mh q⟩
theorem ev_andT {rest : List Expr} (ha : EV X a env (.bool true)) (hb : EV X (.BoolOp .And (b :: rest) pos) env d) : EV X (.BoolOp .And (a :: b :: rest) pos) env d := fun σ M H Q s mh q =>
  ⟨_, pe_and pe_w pe_w, ha.run s mh fun v M1 H1 st s1 r => by
    cases r
    refine ⟨true, rfl, ?_⟩
    rw [if_pos rfl]
    exact hb σ M1 H1 Q s1 st.mh (q.step st)⟩
theorem ev_andF {rest : List Expr} (ha : EV X a env (.bool false)) : EV X (.BoolOp .And (a :: b :: rest) pos) env (.bool false) := fun σ M H Q s mh q =>
  ⟨_, pe_and pe_w pe_w, ha.run s mh fun v M1 H1 st s1 r => by
    cases r
    refine ⟨false, rfl, ?_⟩
    rw [if_neg Bool.false_ne_true]
    exact (q.step st).here st.mh (.bool_ _)⟩
theorem ev_orF {rest : List Expr} (ha : EV X a env (.bool false)) (hb : EV X (.BoolOp .Or (b :: rest) pos) env d) : EV X (.BoolOp .Or (a :: b :: rest) pos) env d := fun σ M H Q s mh q =>
  ⟨_, pe_or pe_w pe_w, ha.run s mh fun v M1 H1 st s1 r => by
    cases r
    refine ⟨false, rfl, ?_⟩
    rw [if_neg Bool.false_ne_true]
    exact hb σ M1 H1 Q s1 st.mh (q.step st)⟩
theorem ev_orT {rest : List Expr} (ha : EV X a env (.bool true)) : EV X (.BoolOp .Or (a :: b :: rest) pos) env (.bool true) := fun σ M H Q s mh q =>
  ⟨_, pe_or pe_w pe_w, ha.run s mh fun v M1 H1 st s1 r => by
    cases r
    refine ⟨true, rfl, ?_⟩
    rw [if_pos rfl]
    exact (q.step st).here st.mh (.bool_ _)⟩
theorem EVT.run {t : Bool} (h : EVT X e env t) {σ : L2.St} {M H : Hp} {Q : Bool → Hp → Prop} (s : Sl X.K M σ env) (mh : Same M H) (k : ∀ M' H', Stp M H M' H' → Sl X.K M' σ env → Q t H') : WT X e σ H Q :=
  h σ M H Q s mh fun M' H' st => k M' H' st (s.mono st.m)
theorem et_val {t : Bool} (ha : EV X a env d) (h : truD d = some t) (he : ∀ whole, isTrue a X.env whole = (do let v ← whole; standAt a.pos; holding [v] (truthy v))) : EVT X a env t := fun σ M H Q s mh q =>
  ⟨_, pt_truth pe_w he, ha.run s mh fun v M1 H1 st s1 r => ⟨t, tru_of st.mh r h, q M1 H1 st⟩⟩
theorem et_not {t : Bool} (ha : EVT X a env t) : EVT X (.UnaryOp .Not a pos) env (!t) := fun σ M H Q s mh q =>
  ⟨_, pt_not pt_w, ha.run s mh fun M1 H1 st s1 => q M1 H1 st⟩
/-- a chain of and, or: by the rule that holds whatever is around -/
def WPW (X : Cx) (e : Expr) : TT := fun σ H Q => ∃ t, PW X e t ∧ t σ H Q
theorem pw_w : PW X e (WPW X e) := by
  refine ⟨fun whole pins s σ H Q I h => ?_⟩
  obtain ⟨_, h, q⟩ := h
  exact h.run whole pins s σ H Q I q
def EVW (X : Cx) (e : Expr) (env : DE) (b : Bool) : Prop := ∀ σ M H (Q : Bool → Hp → Prop), Sl X.K M σ env → Same M H → (∀ M' H', Stp M H M' H' → Q b H') → WPW X e σ H Q
theorem EVW.et {t : Bool} (h : EVW X e env t) : EVT X e env t := fun σ M H Q s mh q => ⟨_, PW.pt pw_w, h σ M H Q s mh q⟩
theorem ew_and1 {t : Bool} (ha : EVT X a env t) : EVW X (.BoolOp .And [a] pos) env t := fun σ M H Q s mh q => ⟨_, pw_and1 pt_w, ha σ M H Q s mh q⟩
theorem ew_or1 {t : Bool} (ha : EVT X a env t) : EVW X (.BoolOp .Or [a] pos) env t := fun σ M H Q s mh q => ⟨_, pw_or1 pt_w, ha σ M H Q s mh q⟩
theorem ew_andT {rest : List Expr} {t : Bool} (ha : EVT X a env true) (hb : EVW X (.BoolOp .And (b :: rest) pos) env t) : EVW X (.BoolOp .And (a :: b :: rest) pos) env t := fun σ M H Q s mh q =>
  ⟨_, pw_and pt_w pw_w, ha.run s mh fun M1 H1 st s1 => by
    rw [if_pos rfl]
    exact hb σ M1 H1 Q s1 st.mh fun M2 H2 st2 => q M2 H2 (st.trans st2)⟩
theorem ew_andF {rest : List Expr} (ha : EVT X a env false) : EVW X (.BoolOp .And (a :: b :: rest) pos) env false := fun σ M H Q s mh q =>
  ⟨_, pw_and pt_w pw_w, ha.run s mh fun M1 H1 st s1 => by
    rw [if_neg Bool.false_ne_true]
    exact q M1 H1 st⟩
theorem ew_orF {rest : List Expr} {t : Bool} (ha : EVT X a env false) (hb : EVW X (.BoolOp .Or (b :: rest) pos) env t) : EVW X (.BoolOp .Or (a :: b :: rest) pos) env t := fun σ M H Q s mh q =>
  ⟨_, pw_or pt_w pw_w, ha.run s mh fun M1 H1 st s1 => by
    rw [if_neg Bool.false_ne_true]
    exact hb σ M1 H1 Q s1 st.mh fun M2 H2 st2 => q M2 H2 (st.trans st2)⟩
theorem ew_orT {rest : List Expr} (ha : EVT X a env true) : EVW X (.BoolOp .Or (a :: b :: rest) pos) env true := fun σ M H Q s mh q =>
  ⟨_, pw_or pt_w pw_w, ha.run s mh fun M1 H1 st s1 => by
    rw [if_pos rfl]
    exact q M1 H1 st⟩
theorem ev_ifT (ht : EVT X c env true) (ha : EV X a env d) : EV X (.IfExp c a b pos) env d := fun σ M H Q s mh q =>
  ⟨_, pe_ifExp pt_w pe_w pe_w, ht.run s mh fun M1 H1 st s1 => by
    rw [if_pos rfl]
    exact ha σ M1 H1 Q s1 st.mh (q.step st)⟩
theorem ev_ifF (ht : EVT X c env false) (hb : EV X b env d) : EV X (.IfExp c a b pos) env d := fun σ M H Q s mh q =>
  ⟨_, pe_ifExp pt_w pe_w pe_w, ht.run s mh fun M1 H1 st s1 => by
    rw [if_neg Bool.false_ne_true]
    exact hb σ M1 H1 Q s1 st.mh (q.step st)⟩
/-- a < b < c -/
theorem run_chain {g : D → D → Option D} {o o' : CmpOp} {σ : L2.St} {M H : Hp} {Q : VK} {t : Bool} (hs : Serves X (compareOp o) g) (ha : EV X a env x) (hb : EV X b env y) (h : g x y = some (.bool t)) (s : Sl X.K M σ env) (mh : Same M H)
    (k1 : t = true → ∀ w M' H', Stp M H M' H' → Sl X.K M' σ env → Rp X.K M' w y → WE X c σ H' fun z H3 => WR X (compareOp o') w z H3 Q) (k2 : t = false → ∀ M' H', Stp M H M' H' → Q (.bl false) H') :
    tChain (WR X (compareOp o)) (WR X (compareOp o')) (WE X a) (WE X b) (WE X c) σ H Q := by
  refine ha.run s mh fun v M1 H1 st1 s1 r1 => ?_
  refine hb.run s1 st1.mh fun w M2 H2 st2 s2 r2 => ?_
  refine hs st2.mh (dp_mono st2.m _ _ r1) r2 h fun z M3 H3 st3 r3 => ?_
  cases r3
  refine ⟨t, rfl, ?_⟩
  have st := (st1.trans st2).trans st3
  cases t with
  | true => exact k1 rfl w M3 H3 st (s.mono st.m) (dp_mono st3.m _ _ r2)
  | false => exact k2 rfl M3 H3 st
theorem EVA.run {es : List Expr} {ds : List D} (h : EVA X es env ds) {σ : L2.St} {M H : Hp} {Q : List V → Hp → Prop} (s : Sl X.K M σ env) (mh : Same M H) (k : ∀ vs M' H', Stp M H M' H' → RpA X.K M' vs ds → Q vs H') : WA X es σ H Q :=
  h σ M H Q s mh k
theorem ea_nil : EVA X [] env [] := fun σ M H Q s mh q => ⟨_, pa_nil, q [] M H (Stp.refl mh) .nil_⟩
theorem ea_cons {es : List Expr} {ds : List D} (ha : EV X a env d) (hr : EVA X es env ds) (hs : starEach (a :: es) X.env = (false, eval a X.env) :: starEach es X.env) : EVA X (a :: es) env (d :: ds) := fun σ M H Q s mh q =>
  ⟨_, pa_cons pe_w pa_w hs, ha.run s mh fun v M1 H1 st s1 r => hr.run s1 st.mh fun vs M2 H2 st2 r2 => q _ M2 H2 (st.trans st2) (.cons_ (dp_mono st2.m _ _ r) r2)⟩
theorem ev_tup {es : List Expr} {ds : List D} {k : Nat} (ha : EVA X es env ds) (hl : ds.length ≤ lim) : EV X (.Tuple es k pos) env (.tuple ds) := fun σ M H Q s mh q =>
  ⟨_, pe_tup pa_w, ha.run s mh fun vs M1 H1 st r => ⟨by rw [rpa_len r]; exact Nat.le_trans hl lim_line, fun p hp =>
    q (.ref p) _ _ (st.trans (Stp.laid st.mh hp)) (.tuple_ (.inl (.inl upd_same)) (dpa_mono (Stp.laid st.mh hp).m _ _ r))⟩⟩
theorem ev_lst {es : List Expr} {ds : List D} (ha : EVA X es env ds) (hl : ds.length ≤ lim) : EVM X (.List es pos) env (.list ds) := fun σ M H Q s mh q =>
  ⟨_, pe_lst pa_w, ha.run s mh fun vs M1 H1 st r => ⟨by rw [rpa_len r]; exact Nat.le_trans hl lim_line, fun p hp =>
    (show PostF X.K M H ds Q from q) p vs M1 _ (st.h.free hp) (st.mh.free hp) (st.trans (Stp.mine st.mh hp)) upd_same r⟩⟩
theorem ev_ix (hu : X.A.units + 64 < cLine) (ha : EV X a env x) (hb : EV X b env y) (h : ixD x y = some d) (hp : PlainIx b) : EV X (.Subscript a b pos) env d := fun σ M H Q s mh q =>
  ⟨_, pe_ix ix_w pe_w pe_w hp, run2 ha hb s mh fun _ _ _ _ st r1 r2 => serves_ix hu st.mh r1 r2 h (q.step st)⟩
/-- a part of a slice -/
def WO (X : Cx) (e : Option Expr) : TO := fun σ H Q => ∃ t, PO X e t ∧ t σ H Q
theorem po_w {o : Option Expr} : PO X o (WO X o) := by
  refine ⟨fun pins s σ H Q I h => ?_⟩
  obtain ⟨_, h, q⟩ := h
  exact h.run pins s σ H Q I q
def EVO (X : Cx) (e : Option Expr) (env : DE) (o : Option Int) : Prop := ∀ σ M H (Q : Option Int → Hp → Prop), Sl X.K M σ env → Same M H → (∀ M' H', Stp M H M' H' → Q o H') → WO X e σ H Q
theorem eo_none : EVO X none env none := fun σ M H Q s mh q => ⟨_, po_none, q M H (Stp.refl mh)⟩
theorem eo_some {i : Int} (ha : EV X a env (.int i)) : EVO X (some a) env (some i) := fun σ M H Q s mh q =>
  ⟨_, po_some pe_w, ha.run s mh fun v M1 H1 st s1 r => by
    cases r
    exact ⟨i, rfl, q M1 H1 st⟩⟩
theorem ev_sl {lo hi : Option Expr} {l h : Option Int} {p2 : Pos} (ha : EV X a env x) (hl : EVO X lo env l) (hh : EVO X hi env h) (e : slD x l h = some d) : EVM X (.Subscript a (.Slice lo hi none p2) pos) env d := fun σ M H Q s mh q =>
  ⟨_, pe_slice sl_w pe_w po_w po_w, ha.run s mh fun v M1 H1 st s1 r => hl σ M1 H1 _ s1 st.mh fun M2 H2 st2 => hh σ M2 H2 _ (s1.mono st2.m) st2.mh fun M3 H3 st3 =>
    serves_sl st3.mh (dp_mono (st2.m.trans st3.m) _ _ r) e (q.step ((st.trans st2).trans st3))⟩
theorem rpa_snoc {K : PySem.W.Frag} {M : Hp} {v : V} {d : D} : ∀ {vs : List V} {ds : List D}, RpA K M vs ds → Rp K M v d → RpA K M (vs ++ [v]) (ds ++ [d])
  | [], [], .nil_, h => .cons_ h .nil_
  | _ :: _, _ :: _, .cons_ g r, h => .cons_ g (rpa_snoc r h)
theorem rpa_rev {K : PySem.W.Frag} {M : Hp} : ∀ {vs : List V} {ds : List D}, RpA K M vs ds → RpA K M vs.reverse ds.reverse
  | [], [], .nil_ => .nil_
  | _ :: _, _ :: _, .cons_ g r => by
    rw [List.reverse_cons, List.reverse_cons]
    exact rpa_snoc (rpa_rev r) g
theorem ev_rev {k : Nat} {p1 p2 p3 : Pos} {ds : List D} (ha : EV X a env (.list ds)) : EVM X (.Subscript a (.Slice none none (some (.UnaryOp .USub (.Constant (.int 1) k p1) p2)) p3) pos) env (.list ds.reverse) := fun σ M H Q s mh q =>
  ⟨_, pe_revL pe_w, ha.run s mh fun v M1 H1 st s1 r => by
    cases r with
    | list_ h r => exact ⟨_, _, rfl, .inl (rd_up st.mh h), fun p hp => (show PostF X.K M H ds.reverse Q from q) p _ M1 _ (st.h.free hp) (st.mh.free hp) (st.trans (Stp.mine st.mh hp)) upd_same (rpa_rev r)⟩⟩
end
end PU
set_option backward.match.sparseCases false
namespace PU
open PySem PySem.Spec PyProof.Rows L2

def PostX (fr : Bool) (K : PySem.W.Frag) (M H : Hp) (d : D) (Q : VK) : Prop := if fr then PostM K M H d Q else Post K M H d Q
theorem PostM.x {K : PySem.W.Frag} {M H : Hp} {d : D} {Q : VK} {fr : Bool} (h : Post K M H d Q) : PostX fr K M H d Q := by
  cases fr with
  | true => exact h.m
  | false => exact h
theorem PostX.step {fr : Bool} {K : PySem.W.Frag} {M H M1 H1 : Hp} {d : D} {Q : VK} (h : PostX fr K M H d Q) (s : Stp M H M1 H1) : PostX fr K M1 H1 d Q := by
  cases fr with
  | true => exact PostM.step h s
  | false => exact Post.step h s
/-- by values: what a call of this meaning asks -/
def rSem (K : PySem.W.Frag) (s : Sem1) : List V → Hp → VK → Prop := fun vs H Q => ∃ M ds d, Same M H ∧ RpA K M vs ds ∧ s.run ds = some d ∧ PostX s.fresh K M H d Q
inductive CallOk (X : Cx) (x : Str) (s : Sem1) : Prop
  | fn (id : String) (hm : X.mg x = none) (hv : bootBuiltins x = some (.builtin id)) (hn : x ≠ "__name__") (c : CallR X (.builtin id) (rSem X.K s))
  | ty (T : String) (hm : X.mg x = none) (hv : bootBuiltins x = some (.type T)) (hn : x ≠ "__name__") (c : CallR X (.type T) (rSem X.K s))
  | df (f : Addr) (hm : X.mg x = some (.ref f)) (hk : PySem.W.keepIn X.K (.ref f) = true) (c : CallR X (.ref f) (rSem X.K s))
structure Alike (X X' : Cx) : Prop where
  prog : X'.prog = X.prog
  w : X'.w = X.w
  K : X'.K = X.K
  mg : X'.mg = X.mg
  base : X'.base = X.base
  A : X'.A = X.A
  calm : X'.calm = X.calm
theorem Alike.refl (X : Cx) : Alike X X := ⟨rfl, rfl, rfl, rfl, rfl, rfl, rfl⟩

def noStar : Expr → Bool
  | .Starred _ _ => false
  | _ => true
theorem star_cons {a : Expr} {es : List Expr} {env : Env} (h : noStar a = true) : starEach (a :: es) env = (false, eval a env) :: starEach es env := by
  cases a <;> first | rfl | cases h
theorem star_any {pos : Pos} {env : Env} : ∀ {es : List Expr}, es.all noStar = true → (backTo pos (starEach es env)).any (·.1) = false
  | [], _ => rfl
  | a :: es, h => by
    rw [List.all_cons, Bool.and_eq_true] at h
    rw [star_cons h.1]
    have ih := star_any (pos := pos) (env := env) h.2
    unfold backTo at ih ⊢
    rw [List.map_cons, List.any_cons, ih]
    rfl
section
variable {X : Cx} {env : DE} {pos p : Pos} {a b c e : Expr} {x y d : D} {n : Str}
theorem pe_callF {f : Addr} {es : List Expr} {r : List V → Hp → VK → Prop} {t : TA} (c : CallR X (.ref f) r) (hg : Gl X n) (hm : X.mg n = some (.ref f)) (hk : PySem.W.keepIn X.K (.ref f) = true) (ha : PA X (e :: es) t)
    (hdb : (n == ("__debug__" : Str)) = false) (he : starEach (e :: es) X.env = (false, eval e X.env) :: starEach es X.env) (hpl : (backTo pos (starEach es X.env)).any (·.1) = false) : PE X (.Call (.Name n p) (e :: es) [] pos) (tCB r t) := by
  refine ⟨fun pins s σ H Q I h => ?_⟩
  refine wpAny_Call_Name_kw (ld_glob I hg hm ?_ hdb)
  refine PySem.W.callWith_K (h₀ := X.base) I.ok.mod.kin hk (thn (ha.run pos pins s σ H _ I h) fun us s1 ⟨vs, H1, I1, r1, q1⟩ => ⟨I1.kIn, ?_⟩) he hpl
  exact c pins s1 σ H1 vs us Q I1 r1 q1
def EVC (fr : Bool) (X : Cx) (e : Expr) (env : DE) (d : D) : Prop := ∀ σ M H Q, Sl X.K M σ env → Same M H → PostX fr X.K M H d Q → WE X e σ H Q
theorem EVC.ev {fr : Bool} (h : EVC fr X e env d) : EV X e env d := fun σ M H Q s mh q => h σ M H Q s mh (PostM.x q)
theorem ev_call {es : List Expr} {ds : List D} {s : Sem1} (hg : Gl X n) (hdb : (n == ("__debug__" : Str)) = false) (ok : CallOk X n s) (hst : (e :: es).all noStar = true) (ha : EVA X (e :: es) env ds) (h : s.run ds = some d) :
    EVC s.fresh X (.Call (.Name n p) (e :: es) [] pos) env d := fun σ M H Q sl mh q => by
  have h1 := star_cons (es := es) (env := X.env) (List.all_cons ▸ hst |> fun z => (Bool.and_eq_true _ _ ▸ z).1)
  have h2 := star_any (pos := pos) (env := X.env) (List.all_cons ▸ hst |> fun z => (Bool.and_eq_true _ _ ▸ z).2)
  have run : tCB (rSem X.K s) (WA X (e :: es)) σ H Q := ha.run sl mh fun vs M1 H1 st r => ⟨M1, ds, d, st.mh, r, h, q.step st⟩
  cases ok with
  | fn id hm hv hn c => exact ⟨_, pe_callB c hg hm hv pa_w hn hdb h1 h2, run⟩
  | ty T hm hv hn c => exact ⟨_, pe_callTy c hg hm hv pa_w hn hdb h1 h2, run⟩
  | df f hm hk c => exact ⟨_, pe_callF c hg hm hk pa_w hdb h1 h2, run⟩
/-- isinstance(e, T), T a built-in class -/
def tyD : D → String
  | .none => "NoneType"
  | .bool _ => "bool"
  | .int _ => "int"
  | .str _ => "str"
  | .list _ => "list"
  | .tuple _ => "tuple"
  | .dict _ => "dict"
theorem tyX_of {K : PySem.W.Frag} {M H : Hp} {v : V} (hd : ∀ kvs, d ≠ .dict kvs) (mh : Same M H) (r : Rp K M v d) : TyX K H v (.type (tyD d)) := by
  cases r with
  | none_ => exact .base .non
  | bool_ b => exact .base (.bl b)
  | int_ i => exact .base (.int i)
  | str_ z => exact .base (.str z)
  | list_ h _ =>
    rcases rd_up mh h with h | ⟨o, h⟩
    · exact .base (.lst h)
    · exact .base (.frz h)
  | tuple_ h _ =>
    rcases seqT_mono mh h with (h | ⟨o, h⟩) | ⟨o, _, _, h, hc, _⟩
    · exact .base (.tup h)
    · exact .fTuple h
    · exact .kTuple h hc
  | scr_ _ _ => exact absurd rfl (hd _)
  | dict_ _ _ _ => exact absurd rfl (hd _)
inductive Ty | int | bool | str | list | tuple
  deriving DecidableEq
def Ty.nm : Ty → String
  | .int => "int"
  | .bool => "bool"
  | .str => "str"
  | .list => "list"
  | .tuple => "tuple"
def Ty.sn : Ty → Str
  | .int => "int"
  | .bool => "bool"
  | .str => "str"
  | .list => "list"
  | .tuple => "tuple"
def isiD : Ty → D → Bool
  | .int, .int _ => true
  | .int, .bool _ => true
  | .bool, .bool _ => true
  | .str, .str _ => true
  | .list, .list _ => true
  | .tuple, .tuple _ => true
  | _, _ => false
theorem isi_kit {K : PySem.W.Frag} (T : Ty) (d : D) (h : ∀ kvs, d ≠ .dict kvs) : PySem.W.kitOne K (.type (tyD d)) (.type T.nm) = some (isiD T d) := by
  cases d <;> first | exact absurd rfl (h _) | (cases T <;> refine kit_ty ?_ <;> simp only [tyD, Ty.nm, isiD] <;> decide +kernel)
theorem boot_ty (T : Ty) : bootBuiltins T.sn = some (.type T.nm) := by cases T <;> decide +kernel
theorem sn_name (T : Ty) : T.sn ≠ "__name__" := by cases T <;> decide +kernel
theorem sn_debug (T : Ty) : (T.sn == ("__debug__" : Str)) = false := by cases T <;> decide +kernel
theorem ev_isi {p p2 : Pos} {T : Ty} (hg : Gl X "isinstance") (hm : X.mg "isinstance" = none) (hg2 : Gl X T.sn) (hm2 : X.mg T.sn = none) (hst : noStar a = true) (hd : ∀ kvs, d ≠ .dict kvs) (ha : EV X a env d) :
    EV X (.Call (.Name "isinstance" p) [a, .Name T.sn p2] [] pos) env (.bool (isiD T d)) := fun σ M H Q s mh q => by
  have hall : [a, .Name T.sn p2].all noStar = true := by
    show (noStar a && true) = true
    rw [hst]
    rfl
  refine ⟨_, pe_callB call_isi hg hm (by decide +kernel) (pa_cons pe_w (pa_cons (pe_bltn (v := .ty T.nm) hg2 hm2 (boot_ty T) rfl (sn_name T) (sn_debug T)) pa_nil) (star_cons hst)) (by decide +kernel) (by decide +kernel) (star_cons hst) (star_any (es := [.Name T.sn p2]) rfl), ?_⟩
  refine ha.run s mh fun v M1 H1 st s1 r => ⟨v, .ty T.nm, _, _, _, rfl, .ty _, tyX_of hd st.mh r, isi_kit T d hd, (q.step st).here st.mh (.bool_ _)⟩
end

inductive Gv | int (i : Int) | tab (kvs : List (Str × D))
/-- an entry of a written dict tells its pair -/
def EntK (K : PySem.W.Frag) (e : DictEntry) (p : Str × D) : Prop := (∃ t, e.key = .str p.1 t) ∧ ∃ v, RelV v e.val ∧ ∀ M, Rp K M v p.2
def TabK (K : PySem.W.Frag) (w : World) (a : Addr) (kvs : List (Str × D)) : Prop := ∃ (es : List DictEntry) (n : Nat), K.lookup a = some ⟨.type "dict", none, .dict es.toArray n, #[]⟩ ∧ PySem.W.KeysLit w.params es ∧ (a == sysModules) = false ∧ Paired (EntK K) es kvs
def GOk (K : PySem.W.Frag) (w : World) (mg : Str → Option Value) (p : Str × Gv) : Prop := match p.2 with
  | .int i => ∃ t, mg p.1 = some (.int i t)
  | .tab kvs => ∃ a, mg p.1 = some (.ref a) ∧ TabK K w a kvs
section
variable {X : Cx} {env : DE} {pos p : Pos} {a b c e : Expr} {x y d : D} {n : Str} {K : PySem.W.Frag} {M H : Hp}
theorem mapOf_mix {P : Program} {w : World} {h : Heap} {l : Addr} {es : Array DictEntry} {m : Nat} (I : K.In h) (hl : K.lookup l = some ⟨.type "dict", none, .dict es m, #[]⟩) (hk : PySem.W.KeysLit w.params es.toList) : h.MapOf (mixKind P w) l (fun k => findBy keyIs es k) :=
  ⟨_, es, m, I _ _ hl, ⟨rfl, rfl, rfl⟩, rfl, fun e he => by
    obtain ⟨x, t, e1, e2⟩ := hk.all e (Array.mem_toList_iff.mpr he)
    exact ⟨.inr x, by rw [e1]; exact mixKind_str P w x t, e2⟩, fun _ => rfl⟩
theorem keyIs_str' (k : Key) (x : Str) (t : Tok) : keyIs k (.str x t) = keyEq (.str x) (keyD k) := by
  cases k with
  | inl i => rfl
  | inr z =>
    show (x == z) = decide (x = z)
    by_cases h : x = z
    · subst h; simp
    · rw [decide_eq_false h]
      exact beq_eq_false_iff_ne.mpr h
theorem find_tab (k : Key) {es : List DictEntry} {kvs : List (Str × D)} (r : Paired (EntK K) es kvs) :
    (findBy keyIs es.toArray k).isSome = (kvs.any fun p => keyEq (.str p.1) (keyD k)) ∧ ∀ p, kvs.find? (fun p => keyEq (.str p.1) (keyD k)) = some p → ∃ u v, findBy keyIs es.toArray k = some u ∧ RelV v u ∧ ∀ M, Rp K M v p.2 := by
  unfold findBy
  rw [List.find?_toArray]
  induction r with
  | nil => exact ⟨rfl, fun p h => nomatch h⟩
  | @cons e p es kvs h t ih =>
    obtain ⟨⟨tk, e1⟩, v, rv, rp⟩ := h
    rw [List.find?_cons, List.any_cons, List.find?_cons, e1, keyIs_str']
    cases hk : keyEq (.str p.1) (keyD k) with
    | true => exact ⟨rfl, fun q hq => by cases hq; exact ⟨_, v, rfl, rv, rp⟩⟩
    | false => exact ⟨by rw [Bool.false_or]; exact ih.1, ih.2⟩
def rTabIn (a : Addr) (kvs : List (Str × D)) (neg : Bool) : R2 := fun x y H Q => ∃ k, x = kV k ∧ y = .ref a ∧ Q (.bl ((kvs.any fun p => keyEq (.str p.1) (keyD k)) != neg)) H
theorem op_tabIn {l : Addr} {kvs : List (Str × D)} (T : TabK X.K X.w l kvs) : OpR X (compareOp .In) (rTabIn l kvs false) := by
  intro pins s σ H x y v u Q I rx ry h
  obtain ⟨k, rfl, rfl, q⟩ := h
  cases ry
  obtain ⟨es, m, hl, hk, lo, pr⟩ := T
  refine wpAny_in_of (kV_is rx) lo (mapOf_mix (P := X.prog) I.kIn hl hk) ?_
  rw [(find_tab k pr).1]
  rw [Bool.bne_false] at q
  exact ⟨.bl _, H, I.tok _, rfl, q⟩
theorem op_tabNotIn {l : Addr} {kvs : List (Str × D)} (T : TabK X.K X.w l kvs) : OpR X (compareOp .NotIn) (rTabIn l kvs true) := by
  intro pins s σ H x y v u Q I rx ry h
  obtain ⟨k, rfl, rfl, q⟩ := h
  cases ry
  obtain ⟨es, m, hl, hk, lo, pr⟩ := T
  refine wpAny_notIn_of (kV_is rx) lo (mapOf_mix (P := X.prog) I.kIn hl hk) ?_
  rw [(find_tab k pr).1]
  rw [Bool.bne_true] at q
  exact ⟨.bl _, H, I.tok _, rfl, q⟩
def rIxTab (K : PySem.W.Frag) (l : Addr) (kvs : List (Str × D)) : R2 := fun x y H Q => ∃ k p, x = .ref l ∧ y = kV k ∧ kvs.find? (fun p => keyEq (.str p.1) (keyD k)) = some p ∧ ∀ v, (∀ M, Rp K M v p.2) → Q v H
theorem ix_tab {l : Addr} {kvs : List (Str × D)} (T : TabK X.K X.w l kvs) : IxR X (rIxTab X.K l kvs) := by
  intro value slice pins s σ H x y v u Q I rx ry h hs
  obtain ⟨k, p, rfl, rfl, hp, q⟩ := h
  cases rx
  obtain ⟨es, m, hl, hk, lo, pr⟩ := T
  obtain ⟨u0, v0, e0, r0, rp⟩ := (find_tab k pr).2 p hp
  have hm := mapOf_mix (P := X.prog) I.kIn hl hk
  exact tail_any hm.typeIs slot_dict_getitem.lookup (wpAny_getItem_of (kV_is ry) hm e0 ⟨v0, H, I.tok _, r0, q v0 rp⟩) hs
theorem ev_gint {i : Int} (hg : Gl X n) (hd : (n == ("__debug__" : Str)) = false) (h : ∃ t, X.mg n = some (.int i t)) : EV X (.Name n p) env (.int i) := fun σ M H Q s mh q => by
  obtain ⟨t, hm⟩ := h
  exact ⟨_, pe_glob hg hm (show RelV (.int i) (.int i t) from ⟨t, rfl⟩) hd, q.here mh (.int_ i)⟩
theorem ev_tabIn {l : Addr} {kvs : List (Str × D)} (neg : Bool) (hg : Gl X n) (hd : (n == ("__debug__" : Str)) = false) (hm : X.mg n = some (.ref l)) (T : TabK X.K X.w l kvs) (ha : EV X a env x) (hk : isKey x = true) :
    EV X (.Compare a [if neg then .NotIn else .In] [.Name n p] pos) env (.bool ((kvs.any fun p => keyEq (.str p.1) x) != neg)) := fun σ M H Q s mh q => by
  cases neg with
  | true =>
    refine ⟨_, pe_cmpR (op_tabNotIn T) pe_w (pe_glob hg hm (show RelV (.ref l) (.ref l) from rfl) hd) rfl, ha.run s mh fun v M1 H1 st s1 r => ?_⟩
    obtain ⟨k, rfl, rfl⟩ := key_of_rp r hk
    exact ⟨k, rfl, rfl, (q.step st).here st.mh (.bool_ _)⟩
  | false =>
    refine ⟨_, pe_cmpR (op_tabIn T) pe_w (pe_glob hg hm (show RelV (.ref l) (.ref l) from rfl) hd) rfl, ha.run s mh fun v M1 H1 st s1 r => ?_⟩
    obtain ⟨k, rfl, rfl⟩ := key_of_rp r hk
    exact ⟨k, rfl, rfl, (q.step st).here st.mh (.bool_ _)⟩
theorem et_tabIn {l : Addr} {kvs : List (Str × D)} (neg : Bool) (hg : Gl X n) (hd : (n == ("__debug__" : Str)) = false) (hm : X.mg n = some (.ref l)) (T : TabK X.K X.w l kvs) (ha : EV X a env x) (hk : isKey x = true) :
    EVT X (.Compare a [if neg then .NotIn else .In] [.Name n p] pos) env ((kvs.any fun p => keyEq (.str p.1) x) != neg) := fun σ M H Q s mh q => by
  cases neg with
  | true =>
    refine ⟨_, pt_cmpR (op_tabNotIn T) pe_w (pe_glob hg hm (show RelV (.ref l) (.ref l) from rfl) hd) rfl, ha.run s mh fun v M1 H1 st s1 r => ?_⟩
    obtain ⟨k, rfl, rfl⟩ := key_of_rp r hk
    exact ⟨k, rfl, rfl, _, rfl, q M1 H1 st⟩
  | false =>
    refine ⟨_, pt_cmpR (op_tabIn T) pe_w (pe_glob hg hm (show RelV (.ref l) (.ref l) from rfl) hd) rfl, ha.run s mh fun v M1 H1 st s1 r => ?_⟩
    obtain ⟨k, rfl, rfl⟩ := key_of_rp r hk
    exact ⟨k, rfl, rfl, _, rfl, q M1 H1 st⟩
theorem ev_tabGet {l : Addr} {kvs : List (Str × D)} {q0 : Str × D} (hg : Gl X n) (hd : (n == ("__debug__" : Str)) = false) (hm : X.mg n = some (.ref l)) (T : TabK X.K X.w l kvs) (hb : EV X b env y) (hk : isKey y = true) (hf : kvs.find? (fun p => keyEq (.str p.1) y) = some q0) (hp : PlainIx b) :
    EV X (.Subscript (.Name n p) b pos) env q0.2 := fun σ M H Q s mh q => by
  refine ⟨_, pe_ix (ix_tab T) (pe_glob hg hm (show RelV (.ref l) (.ref l) from rfl) hd) pe_w hp, ?_⟩
  refine hb.run s mh fun v M1 H1 st s1 r => ?_
  obtain ⟨k, rfl, rfl⟩ := key_of_rp r hk
  exact ⟨k, q0, rfl, rfl, hf, fun v rv => (q.step st).here st.mh (rv M1)⟩
theorem put_new {kvs : List (Key × V)} {k : Key} {v : V} (h : k ∉ kvs.map (·.1)) : putK kvs k v = kvs ++ [(k, v)] := by
  unfold putK
  rw [if_neg]
  intro z
  obtain ⟨q, hq, e⟩ := List.any_eq_true.mp z
  exact h (List.mem_map.mpr ⟨q, hq, of_decide_eq_true e⟩)
theorem merge_new : ∀ (more acc : List (Key × V)), ((acc ++ more).map (·.1)).Nodup → mergeK acc more = acc ++ more
  | [], acc, _ => (List.append_nil acc).symm
  | p :: r, acc, h => by
    show mergeK (putK acc p.1 p.2) r = _
    have h1 : p.1 ∉ acc.map (·.1) := by
      rw [List.map_append, List.map_cons] at h
      intro z
      exact (List.nodup_append.mp h).2.2 _ z _ List.mem_cons_self rfl
    rw [put_new h1]
    have e : acc ++ [(p.1, p.2)] ++ r = acc ++ p :: r := by simp
    rw [merge_new r _ (by rw [e]; exact h), e]
def dispOf : List (Option Expr) → List Expr → Option (List (Key × D))
  | [], [] => some []
  | some (.Constant (.str s) _ _) :: ks, .Constant (.int i) _ _ :: vs => (dispOf ks vs).map ((.inr s, .int i) :: ·)
  | _, _ => none
theorem disp_pps : ∀ (keys : List (Option Expr)) (values : List Expr) {ks : List (Key × D)}, dispOf keys values = some ks →
    PPs X pos keys values (ks.map fun p => (tC (kV p.1), tC (atV p.2))) ∧ keys.all (·.isSome) = true ∧ keys.length = values.length ∧ keys.length = ks.length ∧ (ks.all fun p => atD p.2) = true
  | [], [], ks, h => by
    cases h
    exact ⟨pps_nil, rfl, rfl, rfl, rfl⟩
  | some (.Constant (.str s) _ _) :: keys, .Constant (.int i) _ _ :: vs, ks, h => by
    unfold dispOf at h
    cases hd : dispOf keys vs with
    | none => rw [hd] at h; cases h
    | some r =>
      rw [hd] at h
      cases h
      obtain ⟨a1, a2, a3, a4, a5⟩ := disp_pps keys vs hd
      exact ⟨pps_cons pe_str pe_int a1, by rw [List.all_cons]; exact a2, by rw [List.length_cons, List.length_cons, a3], by rw [List.length_cons, List.length_cons, a4], by rw [List.all_cons]; exact a5⟩
theorem pairs_run {σ : L2.St} : ∀ (ks : List (Key × D)) (Q : List (V × V) → Hp → Prop), Q (ks.map fun p => (kV p.1, atV p.2)) H → tPairs (ks.map fun p => (tC (kV p.1), tC (atV p.2))) σ H Q
  | [], Q, h => h
  | p :: r, Q, h => pairs_run r (fun ps H' => Q ((kV p.1, atV p.2) :: ps) H') h
theorem ev_disp {keys : List (Option Expr)} {values : List Expr} {ks : List (Key × D)} (h : dispOf keys values = some ks) (h0 : ks ≠ []) (h15 : ks.length ≤ 15) (hn : (ks.map (·.1)).Nodup) : EV X (.Dict keys values pos) env (dictD ks) := fun σ M H Q s mh q => by
  obtain ⟨a1, a2, a3, a4, a5⟩ := disp_pps (X := X) (pos := pos) _ _ h
  refine ⟨_, pe_disp a1 a2 a3 (fun z => by subst z; exact h0 (List.length_eq_zero_iff.mp a4.symm)) (by omega), fun l hl => ?_⟩
  refine pairs_run ks _ ⟨upd_same, ks.map (fun p => (p.1, atV p.2)), (by rw [List.map_map]; rfl), by rw [List.length_map]; exact h15, ?_⟩
  rw [merge_new _ [] (by rw [List.nil_append, List.map_map]; exact hn), List.nil_append, upd_upd]
  exact q _ _ _ (Stp.laid mh hl) (.dict_ ks a5 (.inl upd_same))
end
def strsOf : List D → Option (List Str)
  | [] => some []
  | .str z :: r => (strsOf r).map (z :: ·)
  | _ => none
theorem strsOf_eq : ∀ {ds : List D} {ys : List Str}, strsOf ds = some ys → ds = ys.map PyData.str
  | [], _, h => by cases h; rfl
  | .str z :: r, ys, h => by
    unfold strsOf at h
    cases e : strsOf r with
    | none => rw [e] at h; cases h
    | some zs =>
      rw [e] at h
      cases h
      rw [strsOf_eq e]
      rfl
theorem rpa_strs {K : PySem.W.Frag} {M : Hp} : ∀ zs : List Str, RpA K M (zs.map V.str) (zs.map PyData.str)
  | [] => .nil_
  | z :: r => .cons_ (.str_ z) (rpa_strs r)
def joinD : D → D → Option D
  | .str a, .list ds => match strsOf ds with
    | some ys => if (ys.map (·.length)).sum + ys.length * a.length ≤ lim then some (.str (Txt.join a ys)) else none
    | none => none
  | _, _ => none
def splitD : D → D → Option D
  | .str a, .str b => if (b.length == 0) = false ∧ a.length ≤ lim then some (.list ((Txt.split a b).map PyData.str)) else none
  | _, _ => none
def decD : D → Option D
  | .str a => some (.bool (Txt.isdecimal a))
  | _ => none
def plainO : Expr → Bool
  | .Name _ _ => true
  | .Constant _ _ _ => true
  | _ => false
section
variable {X : Cx} {env : DE} {pos p ap : Pos} {a b c e : Expr} {x y d : D} {n : Str} {K : PySem.W.Frag} {M H : Hp}
theorem base_of (h : plainO a = true) (m : Str) (E : Env) : attributeBase a m E (eval a E) = eval a E := by
  cases a <;> first | rfl | cases h
theorem ev_join (hb : plainO a = true) (hs : noStar b = true) (hl : (ap.endLine == pos.line) = true) (ha : EV X a env x) (hc : EV X b env y) (h : joinD x y = some d) : EV X (.Call (.Attribute a "join" ap) [b] [] pos) env d := fun σ M H Q s mh q => by
  refine ⟨_, pe_join pe_w pe_w (star_cons hs) (base_of hb _ _) hl, ha.run s mh fun v M1 H1 st s1 r => ?_⟩
  unfold joinD at h
  split at h
  · rename_i z ds
    cases r
    refine ⟨⟨z, rfl⟩, hc.run s1 st.mh fun w M2 H2 st2 s2 r2 => ?_⟩
    split at h
    · rename_i ys hy
      split at h
      · rename_i hz
        cases h
        have e := strsOf_eq hy
        subst e
        cases r2 with
        | list_ h1 r1 =>
          have e := vs_strs r1
          subst e
          exact ⟨z, _, ys, rfl, rfl, .inl (.inl (rd_up st2.mh h1)), Nat.le_trans hz (by decide), ((q.step st).step st2).here st2.mh (.str_ _)⟩
      · cases h
    · cases h
  · cases h
theorem ev_split (hb : plainO a = true) (hs : noStar b = true) (hl : (ap.endLine == pos.line) = true) (ha : EV X a env x) (hc : EV X b env y) (h : splitD x y = some d) : EV X (.Call (.Attribute a "split" ap) [b] [] pos) env d := fun σ M H Q s mh q => by
  refine ⟨_, pe_split pe_w pe_w (star_cons hs) (base_of hb _ _) hl, ha.run s mh fun v M1 H1 st s1 r => ?_⟩
  unfold splitD at h
  split at h
  · rename_i z u
    cases r
    refine ⟨⟨z, rfl⟩, hc.run s1 st.mh fun w M2 H2 st2 s2 r2 => ?_⟩
    cases r2
    split at h
    · rename_i hz
      cases h
      refine ⟨z, u, rfl, rfl, hz.1, ?_, fun l hl => ?_⟩
      · have := hz.2
        have e : lim + 2 ≤ sizeLine := by decide
        omega
      · exact ((q.step st).step st2).own l _ M2 _ hl (st2.mh.free hl) (Stp.mine st2.mh hl) upd_same (rpa_strs _)
    · cases h
  · cases h
theorem ev_dec (hb : plainO a = true) (hl : (ap.endLine == pos.line) = true) (ha : EV X a env x) (h : decD x = some d) : EV X (.Call (.Attribute a "isdecimal" ap) [] [] pos) env d := fun σ M H Q s mh q => by
  refine ⟨_, pe_m0 PySem.F.slot_str_isdecimal PySem.F.type_str_isdecimal mt_isdecimal pe_w (base_of hb _ _) hl, ha.run s mh fun v M1 H1 st s1 r => ?_⟩
  unfold decD at h
  split at h
  · rename_i z
    cases r
    cases h
    exact ⟨⟨z, rfl⟩, z, rfl, rfl, trivial, (q.step st).here st.mh (.bool_ _)⟩
  · cases h
end
structure Walks (K : PySem.W.Frag) (J : It) (M : Hp) (ds : List D) : Prop where
  go : ∀ (i : Nat) (H : Hp), i < ds.length → Same M H → J.go i H
  stop : ∀ (i : Nat) (H : Hp), i = ds.length → Same M H → J.stop i H
  yld : ∀ (i : Nat) (v : V) (M1 H H' : Hp), i < ds.length → Same M M1 → Same M1 H → J.yld i H v H' → ∃ M2 d, Stp M1 H M2 H' ∧ ds[i]? = some d ∧ Rp K M2 v d
def WPI (X : Cx) (tg iter : Expr) : TI := fun σ H R => ∃ w, PI X tg iter w ∧ w σ H R
theorem pi_w {X : Cx} {tg iter : Expr} : PI X tg iter (WPI X tg iter) := by
  refine ⟨fun pins s σ H R I h => ?_⟩
  obtain ⟨_, h, q⟩ := h
  exact h.run pins s σ H R I q
def EVI (X : Cx) (tg iter : Expr) (env : DE) (ds : List D) : Prop := ∀ σ M H (R : It → Hp → Prop), Sl X.K M σ env → Same M H → (∀ J M' H', Stp M H M' H' → Walks X.K J M' ds → R J H') → WPI X tg iter σ H R
section
variable {X : Cx} {env : DE} {pos p : Pos} {a b c e tg : Expr} {x y d : D} {n : Str} {K : PySem.W.Frag} {M H : Hp}
theorem lst_inj {l : Addr} {xs ys : List V} (h : Rd H l (.lst xs)) (h' : SqL K H l ys → xs = ys) (q : SqL K H l ys) : xs = ys := h' q
theorem walks_list {l : Addr} {vs : List V} {ds : List D} (h : Rd M l (.lst vs)) (r : RpA K M vs ds) : Walks K (Itl K l) M ds where
  go := fun i H hi mh => by
    have hl := rpa_len r
    exact ⟨vs, vs[i]'(by omega), .inl (rd_up mh h), List.getElem?_eq_getElem _⟩
  stop := fun i H hi mh => ⟨vs, .inl (rd_up mh h), by rw [rpa_len r]; exact Nat.le_of_eq hi.symm⟩
  yld := fun i v M1 H H' hi m1 mh y => by
    obtain ⟨rfl, f⟩ := y
    have e := f vs (.inl (rd_up (m1.trans mh) h))
    obtain ⟨d, e2, rd⟩ := dpa_getV r e
    exact ⟨M1, d, Stp.refl mh, e2, dp_mono m1 _ _ rd⟩
theorem walks_tup {l : Addr} {vs : List V} {ds : List D} (h : SqT K M l vs) (r : RpA K M vs ds) : Walks K (Itt K l) M ds where
  go := fun i H hi mh => by
    have hl := rpa_len r
    exact ⟨vs, vs[i]'(by omega), seqT_mono mh h, List.getElem?_eq_getElem _⟩
  stop := fun i H hi mh => ⟨vs, seqT_mono mh h, by rw [rpa_len r]; exact Nat.le_of_eq hi.symm⟩
  yld := fun i v M1 H H' hi m1 mh y => by
    obtain ⟨rfl, f⟩ := y
    have e := f vs (seqT_mono (m1.trans mh) h)
    obtain ⟨d, e2, rd⟩ := dpa_getV r e
    exact ⟨M1, d, Stp.refl mh, e2, dp_mono m1 _ _ rd⟩
def rangeD (lo : Int) (n : Nat) : List D := (List.range n).map fun i => .int (lo + (i : Nat))
theorem range_len (lo : Int) (n : Nat) : (rangeD lo n).length = n := by
  unfold rangeD
  rw [List.length_map, List.length_range]
theorem range_get {lo : Int} {n i : Nat} (h : i < n) : (rangeD lo n)[i]? = some (.int (lo + (i : Nat))) := by
  unfold rangeD
  rw [List.getElem?_map, List.getElem?_range h]
  rfl
theorem walks_range {lo : Int} {k : Nat} : Walks K (Itr lo k) M (rangeD lo k) where
  go := fun i H hi mh => by
    rw [range_len] at hi
    exact hi
  stop := fun i H hi mh => by
    rw [range_len] at hi
    exact Nat.le_of_eq hi.symm
  yld := fun i v M1 H H' hi m1 mh y => by
    obtain ⟨rfl, rfl⟩ := y
    rw [range_len] at hi
    exact ⟨M1, _, Stp.refl mh, range_get hi, .int_ _⟩
theorem sqB_mono {t : Bool} {H H' : Hp} {a : Addr} {xs : List V} (e : Same H H') (h : SqB t K H a xs) : SqB t K H' a xs := by
  cases t
  · exact e.seq h
  · exact seqT_mono e h
theorem walks_zipB {t u : Bool} {l k : Addr} {vs ws : List V} {ds es : List D} (h : SqB t K M l vs) (r : RpA K M vs ds) (h2 : SqB u K M k ws) (r2 : RpA K M ws es) : Walks K (ItzB t u K l k) M ((ds.zip es).map fun p => .tuple [p.1, p.2]) where
  go := fun i H hi mh => by
    rw [List.length_map, List.length_zip] at hi
    have hl := rpa_len r
    have hl2 := rpa_len r2
    exact ⟨vs, ws, vs[i]'(by omega), ws[i]'(by omega), sqB_mono mh h, sqB_mono mh h2, List.getElem?_eq_getElem _, List.getElem?_eq_getElem _⟩
  stop := fun i H hi mh => by
    rw [List.length_map, List.length_zip] at hi
    have hl := rpa_len r
    have hl2 := rpa_len r2
    exact ⟨vs, ws, sqB_mono mh h, sqB_mono mh h2, by omega⟩
  yld := fun i v M1 H H' hi m1 mh y => by
    obtain ⟨T, x, y, rfl, nT, rfl, f1, f2⟩ := y
    obtain ⟨d1, e1, q1⟩ := dpa_getV r (f1 vs (sqB_mono (m1.trans mh) h))
    obtain ⟨d2, e2, q2⟩ := dpa_getV r2 (f2 ws (sqB_mono (m1.trans mh) h2))
    refine ⟨_, .tuple [d1, d2], Stp.laid mh nT, ?_, .tuple_ (.inl (.inl upd_same)) (.cons_ (dp_mono (m1.trans (Stp.laid mh nT).m) _ _ q1) (.cons_ (dp_mono (m1.trans (Stp.laid mh nT).m) _ _ q2) .nil_))⟩
    have e3 : (ds.zip es)[i]? = some (d1, d2) := List.getElem?_zip_eq_some.mpr ⟨e1, e2⟩
    rw [List.getElem?_map, e3]
    rfl
/-- a list or a tuple, by its items -/
def seqD : D → Option (List D)
  | .list xs => some xs
  | .tuple xs => some xs
  | _ => none
theorem seqD_of {v : V} {d : D} {ds : List D} (mh : Same M H) (r : Rp K M v d) (h : seqD d = some ds) : ∃ (t : Bool) (a : Addr) (vs : List V), v = .ref a ∧ SqB t K M a vs ∧ RpA K M vs ds := by
  cases d <;> first | (cases h; done) | skip
  · cases h
    cases r with
    | list_ h r => exact ⟨false, _, _, rfl, .inl h, r⟩
  · cases h
    cases r with
    | tuple_ h r => exact ⟨true, _, _, rfl, h, r⟩
theorem ei_list {ds : List D} (ha : EV X a env (.list ds)) : EVI X tg a env ds := fun σ M H R s mh q =>
  ⟨_, pi_list pe_w, ha.run s mh fun v M1 H1 st s1 r => by
    cases r with
    | list_ h r => exact ⟨_, rfl, ⟨_, .inl (rd_up st.mh h)⟩, q _ M1 H1 st (walks_list h r)⟩⟩
theorem ei_tup {ds : List D} (ha : EV X a env (.tuple ds)) : EVI X tg a env ds := fun σ M H R s mh q =>
  ⟨_, pi_tup pe_w, ha.run s mh fun v M1 H1 st s1 r => by
    cases r with
    | tuple_ h r => exact ⟨_, rfl, ⟨_, seqT_mono st.mh h⟩, q _ M1 H1 st (walks_tup h r)⟩⟩
theorem ei_range1 {k : Int} (hg : Gl X "range") (hm : X.mg "range" = none) (hs : noStar a = true) (ha : EV X a env (.int k)) (hk : k ≤ 1000000000) (hk0 : -1000000000 ≤ k) : EVI X tg (.Call (.Name "range" p) [a] [] pos) env (rangeD 0 k.toNat) := fun σ M H R s mh q =>
  ⟨_, pi_range1 hg hm (pa_cons pe_w pa_nil (star_cons hs)) (star_cons hs), ha.run s mh fun v M1 H1 st s1 r => by
    cases r
    exact ⟨k, rfl, by omega, by omega, q _ M1 H1 st walks_range⟩⟩
theorem ei_range2 {lo k : Int} (hg : Gl X "range") (hm : X.mg "range" = none) (hs : noStar a = true) (hs2 : noStar b = true) (ha : EV X a env (.int lo)) (hb : EV X b env (.int k)) (hk : k ≤ 1000000000) (hk0 : -1000000000 ≤ k) (hl : lo ≤ 1000000000) (hl0 : -1000000000 ≤ lo) :
    EVI X tg (.Call (.Name "range" p) [a, b] [] pos) env (rangeD lo (k - lo).toNat) := fun σ M H R s mh q =>
  ⟨_, pi_range2 hg hm (pa_cons pe_w (pa_cons pe_w pa_nil (star_cons hs2)) (star_cons hs)) (by rw [star_cons hs, star_cons hs2]; rfl) (by rw [star_cons hs2]; rfl), ha.run s mh fun v M1 H1 st s1 r => by
    cases r
    exact hb.run s1 st.mh fun v M2 H2 st2 s2 r => by
      cases r
      exact ⟨lo, k, rfl, by omega, q _ M2 H2 (st.trans st2) walks_range⟩⟩
end

def setAll (σ : L2.St) : List Nat → List V → L2.St
  | i :: is, v :: vs => setAll (σ.set i (some v)) is vs
  | _, _ => σ
def setDs (env : DE) : List Nat → List D → DE
  | i :: is, d :: ds => setDs (env.set i (some d)) is ds
  | _, _ => env
inductive Tgt | one (i : Nat) | tup (is : List Nat)
def Tgt.ix : Tgt → List Nat
  | .one i => [i]
  | .tup is => is
def Tgt.vals : Tgt → D → Option (List D)
  | .one _, d => some [d]
  | .tup is, .tuple ds => if ds.length = is.length then some ds else none
  | .tup _, _ => none
def WG (X : Cx) (tg : Expr) : TG := fun v σ H Q => ∃ g, PG X tg g ∧ g v σ H Q
theorem pg_w {X : Cx} {tg : Expr} : PG X tg (WG X tg) := by
  refine ⟨fun pins s σ H v u Q I r h => ?_⟩
  obtain ⟨_, h, q⟩ := h
  exact h.run pins s σ H v u Q I r q
def TgOk (X : Cx) (tg : Expr) (t : Tgt) : Prop := ∀ (M H : Hp) (σ : L2.St) (v : V) (d : D) (ds : List D) (Q : L2.St → Hp → Prop), Same M H → Rp X.K M v d → t.vals d = some ds → (∀ vs, RpA X.K M vs ds → Q (setAll σ t.ix vs) H) → WG X tg v σ H Q
/-- a plain name that may be stored to -/
def NameOk (X : Cx) (e : Expr) (i : Nat) : Prop := ∃ n p, e = .Name n p ∧ X.N[i]? = some n ∧ Loc X.env.scope n ∧ (X.fn n = true ∨ X.env.scope.names.lookup n = some .local)
def NamesOk (X : Cx) : List Expr → List Nat → Prop
  | [], [] => True
  | e :: es, i :: is => NameOk X e i ∧ NamesOk X es is
  | _, _ => False
def gSets : List Nat → TGs
  | [] => gNil
  | i :: is => gCons (gName i) (gSets is)
section
variable {X : Cx}
theorem tg_one {e : Expr} {i : Nat} (hN : X.N.Nodup) (h : NameOk X e i) : TgOk X e (.one i) := by
  intro M H σ v d ds Q mh r e1 q
  obtain ⟨n, p, rfl, hi, hl, hf⟩ := h
  cases e1
  exact ⟨_, pg_name hN hi hl hf, q [v] (.cons_ r .nil_)⟩
theorem pgs_sets (hN : X.N.Nodup) : ∀ {es : List Expr} {is : List Nat}, NamesOk X es is → PGs X es (gSets is) ∧ (assignEach es X.env).length = is.length ∧ (assignEach es X.env).findIdx? (·.1) = none
  | [], [], _ => ⟨pgs_nil, rfl, rfl⟩
  | [], _ :: _, h => h.elim
  | _ :: _, [], h => h.elim
  | e :: es, i :: is, h => by
    obtain ⟨⟨n, p, rfl, hi, hl, hf⟩, h2⟩ := h
    obtain ⟨a, b, c⟩ := pgs_sets hN h2
    refine ⟨pgs_cons (pg_name hN hi hl hf) a, ?_, ?_⟩
    · show (assignEach es X.env).length + 1 = is.length + 1
      rw [b]
    · show List.findIdx? (·.1) ((false, _) :: assignEach es X.env) = none
      rw [List.findIdx?_cons, c]
      rfl
theorem sets_run {H : Hp} {Q : L2.St → Hp → Prop} : ∀ {is : List Nat} {vs : List V} {σ : L2.St}, vs.length = is.length → Q (setAll σ is vs) H → gSets is vs σ H Q
  | [], [], _, _, q => ⟨rfl, q⟩
  | [], _ :: _, _, h, _ => by cases h
  | _ :: _, [], _, h, _ => by cases h
  | i :: is, v :: vs, σ, h, q => ⟨v, vs, rfl, sets_run (Nat.succ.inj h) q⟩
theorem tg_tup {es : List Expr} {is : List Nat} {k : Nat} {pos : Pos} (hc : X.calm = true) (hN : X.N.Nodup) (h : NamesOk X es is) : TgOk X (.Tuple es k pos) (.tup is) := by
  intro M H σ v d ds Q mh r e1 q
  obtain ⟨a, b, c⟩ := pgs_sets hN h
  cases d <;> first | (cases e1; done) | skip
  rename_i xs
  have e1 : (if xs.length = is.length then some xs else none) = some ds := e1
  split at e1
  · rename_i hl
    cases e1
    cases r with
    | tuple_ h1 r1 => exact ⟨_, pg_tup hc a b c, _, _, rfl, seqT_mono mh h1, by rw [rpa_len r1]; exact hl, sets_run (by rw [rpa_len r1]; exact hl) (q _ r1)⟩
  · cases e1
theorem sl_set {K : PySem.W.Frag} {M : Hp} {σ : L2.St} {env : DE} {i : Nat} {v : V} {d : D} (s : Sl K M σ env) (r : Rp K M v d) : Sl K M (σ.set i (some v)) (env.set i (some d)) where
  len := by rw [List.length_set, List.length_set, s.len]
  at_ := fun j e h => by
    by_cases hj : i = j
    · subst hj
      by_cases hl : i < env.length
      · rw [List.getElem?_set_self hl] at h
        cases h
        exact ⟨v, List.getElem?_set_self (by rw [s.len]; exact hl), r⟩
      · rw [List.getElem?_eq_none (by rw [List.length_set]; omega)] at h
        cases h
    · rw [List.getElem?_set_ne hj] at h
      obtain ⟨u, h1, h2⟩ := s.at_ j e h
      exact ⟨u, by rw [List.getElem?_set_ne hj]; exact h1, h2⟩
theorem sl_setAll {K : PySem.W.Frag} {M : Hp} : ∀ {is : List Nat} {vs : List V} {ds : List D} {σ : L2.St} {env : DE}, Sl K M σ env → RpA K M vs ds → Sl K M (setAll σ is vs) (setDs env is ds)
  | [], _, _, _, _, s, _ => by
    unfold setAll setDs
    exact s
  | i :: is, _, _, σ, env, s, .nil_ => by
    unfold setAll setDs
    exact s
  | i :: is, v :: vs, d :: ds, σ, env, s, .cons_ r t => by
    show Sl K M (setAll (σ.set i (some v)) is vs) (setDs (env.set i (some d)) is ds)
    exact sl_setAll (sl_set s r) t
end
end PU
set_option backward.match.sparseCases false
namespace PU
open PySem PySem.Spec PyProof.Rows L2

def lcD (f : D → Option (Option D)) : List D → Option (List D)
  | [] => some []
  | x :: xs => match f x, lcD f xs with
    | some none, some r => some r
    | some (some d), some r => some (d :: r)
    | _, _ => none
theorem lcD_len {f : D → Option (Option D)} : ∀ {xs ys : List D}, lcD f xs = some ys → ys.length ≤ xs.length
  | [], ys, h => by cases h; exact Nat.le_refl _
  | x :: xs, ys, h => by
    unfold lcD at h
    split at h
    · rename_i r e1 e2
      cases h
      have := lcD_len e2
      exact Nat.le_succ_of_le this
    · rename_i d r e1 e2
      cases h
      have := lcD_len e2
      exact Nat.succ_le_succ this
    · cases h
def wipeD (env : DE) : List Nat → DE
  | [] => env
  | v :: vs => (wipeD env vs).set v none
theorem wipeD_len (env : DE) : ∀ vs : List Nat, (wipeD env vs).length = env.length
  | [] => rfl
  | v :: vs => by unfold wipeD; rw [List.length_set, wipeD_len env vs]
theorem wipeD_some {env : DE} {i : Nat} {x : D} : ∀ {vs : List Nat}, (wipeD env vs)[i]? = some (some x) → env[i]? = some (some x) ∧ i ∉ vs
  | [], h => ⟨h, by simp⟩
  | v :: vs, h => by
    unfold wipeD at h
    by_cases hi : v = i
    · subst hi
      by_cases hv : v < (wipeD env vs).length
      · rw [List.getElem?_set_self hv] at h; cases h
      · rw [List.getElem?_eq_none (by simpa using hv)] at h; cases h
    · rw [List.getElem?_set_ne hi] at h
      obtain ⟨h1, h2⟩ := wipeD_some h
      exact ⟨h1, by simp only [List.mem_cons, not_or]; exact ⟨fun e => hi e.symm, h2⟩⟩
theorem wipe_at (σ : L2.St) (j : Nat) : ∀ vs : List Nat, (wipe σ vs)[j]? = if j ∈ vs then (σ[j]?).map (fun _ => none) else σ[j]?
  | [] => by rw [if_neg (by simp)]; rfl
  | v :: vs => by
    unfold wipe
    by_cases hv : v = j
    · subst hv
      rw [if_pos (by simp)]
      by_cases hl : v < σ.length
      · rw [List.getElem?_set_self (by rw [wipe_length]; exact hl), List.getElem?_eq_getElem hl]
        rfl
      · rw [List.getElem?_eq_none (by rw [List.length_set, wipe_length]; omega), List.getElem?_eq_none (by omega)]
        rfl
    · rw [List.getElem?_set_ne hv, wipe_at σ j vs]
      by_cases hj : j ∈ vs
      · rw [if_pos hj, if_pos (List.mem_cons_of_mem _ hj)]
      · rw [if_neg hj, if_neg (by simp only [List.mem_cons, not_or]; exact ⟨fun e => hv e.symm, hj⟩)]
theorem setAll_out {j : Nat} : ∀ {is : List Nat} {vs : List V} {σ : L2.St}, j ∉ is → (setAll σ is vs)[j]? = σ[j]?
  | [], _, _, _ => by unfold setAll; rfl
  | i :: is, [], _, _ => by unfold setAll; rfl
  | i :: is, v :: vs, σ, h => by
    show (setAll (σ.set i (some v)) is vs)[j]? = _
    rw [setAll_out fun z => h (List.mem_cons_of_mem _ z), List.getElem?_set_ne fun e => h (by rw [e]; exact List.mem_cons_self)]
theorem setAll_len : ∀ {is : List Nat} {vs : List V} {σ : L2.St}, (setAll σ is vs).length = σ.length
  | [], _, _ => by unfold setAll; rfl
  | i :: is, [], _ => by unfold setAll; rfl
  | i :: is, v :: vs, σ => by
    show (setAll (σ.set i (some v)) is vs).length = _
    rw [setAll_len, List.length_set]
theorem wipe_back {own is : List Nat} {vs : List V} {σ : L2.St} (h : ∀ i ∈ is, i ∈ own) : wipe (setAll (wipe σ own) is vs) own = wipe σ own := by
  apply List.ext_getElem?
  intro j
  rw [wipe_at, wipe_at]
  by_cases hj : j ∈ own
  · rw [if_pos hj, if_pos hj]
    by_cases hl : j < σ.length
    · rw [List.getElem?_eq_getElem (by rw [setAll_len, wipe_length]; exact hl), List.getElem?_eq_getElem hl]
      rfl
    · rw [List.getElem?_eq_none (by rw [setAll_len, wipe_length]; omega), List.getElem?_eq_none (by omega)]
  · rw [if_neg hj, if_neg hj, setAll_out fun z => hj (h j z), wipe_at, if_neg hj]
theorem sl_wipe {K : PySem.W.Frag} {M : Hp} {σ : L2.St} {env : DE} (own : List Nat) (s : Sl K M σ env) : Sl K M (wipe σ own) (wipeD env own) where
  len := by rw [wipe_length, wipeD_len, s.len]
  at_ := fun j d h => by
    obtain ⟨h1, h2⟩ := wipeD_some h
    obtain ⟨v, e, r⟩ := s.at_ j d h1
    exact ⟨v, by rw [wipe_at, if_neg h2]; exact e, r⟩

/-- in every block of the comprehension -/
structure Blk (X : Cx) (scope : Scope) where
  s : Shared
  H : Hp
  C : Addr
  cl : List (Str × Addr)
  fp : List Addr
abbrev Blk.cx {X : Cx} {scope : Scope} (b : Blk X scope) : Cx := X.blk b.s b.H scope (compEnvC scope b.cl b.C X.env) b.fp
def WTs (X : Cx) (ifs : List Expr) : TT := fun σ H Q => ∃ t, PTs X ifs t ∧ t σ H Q
theorem pts_w {X : Cx} {ifs : List Expr} : PTs X ifs (WTs X ifs) := by
  refine ⟨fun pins s σ H Q I h => ?_⟩
  obtain ⟨_, h, q⟩ := h
  exact h.run pins s σ H Q I q
def EVTs (X : Cx) (ifs : List Expr) (env : DE) (b : Bool) : Prop := ∀ σ M H (Q : Bool → Hp → Prop), Sl X.K M σ env → Same M H → (∀ M' H', Stp M H M' H' → Q b H') → WTs X ifs σ H Q
theorem ets_nil {X : Cx} {env : DE} : EVTs X [] env true := fun σ M H Q s mh q => ⟨_, pts_nil, q M H (Stp.refl mh)⟩
theorem ets_one {X : Cx} {env : DE} {c : Expr} {b : Bool} (h : EVT X c env b) : EVTs X [c] env b := fun σ M H Q s mh q => ⟨_, pts_one pt_w, h σ M H Q s mh q⟩
section
variable {X : Cx} {scope : Scope} {tg iter elt : Expr} {ifs : List Expr} {env : DE} {pos : Pos}
def bG (X : Cx) (scope : Scope) (tg : Expr) : TG := fun v σ H Q => ∀ b : Blk X scope, WG b.cx tg v σ H Q
def bT (X : Cx) (scope : Scope) (ifs : List Expr) : TT := fun σ H Q => ∀ b : Blk X scope, WTs b.cx ifs σ H Q
def bE (X : Cx) (scope : Scope) (elt : Expr) : TE := fun σ H Q => ∀ b : Blk X scope, WE b.cx elt σ H Q
theorem bG_ok (b : Blk X scope) : PG b.cx tg (bG X scope tg) := by
  refine ⟨fun pins s σ H v u Q I r h => ?_⟩
  exact pg_w.run pins s σ H v u Q I r (h b)
theorem bT_ok (b : Blk X scope) : PTs b.cx ifs (bT X scope ifs) := by
  refine ⟨fun pins s σ H Q I h => ?_⟩
  exact pts_w.run pins s σ H Q I (h b)
theorem bE_ok (b : Blk X scope) : PE b.cx elt (bE X scope elt) := by
  refine ⟨fun pins s σ H Q I h => ?_⟩
  exact pe_w.run pins s σ H Q I (h b)
/-- one turn: what is kept of an item (none: nothing) -/
structure TurnIs (X : Cx) (scope : Scope) (ifs : List Expr) (elt : Expr) (env : DE) (tgt : Tgt) (x : D) (r : Option D) : Prop where
  go : ∃ ds b, tgt.vals x = some ds ∧ (∀ B : Blk X scope, EVTs B.cx ifs (setDs env tgt.ix ds) b) ∧ (b = false → r = none) ∧ (b = true → ∃ d, r = some d ∧ ∀ B : Blk X scope, EV B.cx elt (setDs env tgt.ix ds) d)
theorem run_lc {tgt : Tgt} {own : List Nat} {xs ys : List D} {f : D → Option (Option D)} {σ : L2.St} {M H : Hp} {Q : VK} (hi : EVI X tg iter env xs) (htg : ∀ B : Blk X scope, TgOk B.cx tg tgt) (hown : ∀ i ∈ tgt.ix, i ∈ own) (hlen : xs.length ≤ lim)
    (hf : ∀ x ∈ xs, ∀ r, f x = some r → TurnIs X scope ifs elt (wipeD env own) tgt x r) (hr : lcD f xs = some ys) (s : Sl X.K M σ env) (mh : Same M H) (q : PostF X.K M H ys Q) :
    tLc (WPI X tg iter) (bG X scope tg) (bT X scope ifs) (bE X scope elt) own σ H Q := by
  refine hi σ M H _ s mh fun J M1 H1 st1 wk D hD => ?_
  refine ⟨fun i m H2 => m = xs.length - i ∧ i ≤ xs.length ∧ ∃ M2 vs pre rest, Stp M1 H1 M2 H2 ∧ H2 D = some (.lst vs) ∧ M2 D = none ∧ RpA X.K M2 vs pre ∧ pre.length ≤ i ∧ ys = pre ++ rest ∧ lcD f (xs.drop i) = some rest,
    ⟨xs.length, rfl, Nat.zero_le _, M1, [], [], ys, Stp.mine st1.mh hD, upd_same, st1.mh.free hD, .nil_, Nat.le_refl _, rfl, hr⟩, ?_⟩
  rintro i m H2 ⟨rfl, hile, M2, vs, pre, rest, st2, hv, hm2, ra, hpl, hy, hrest⟩
  by_cases hi : i < xs.length
  · refine .inr ⟨wk.go i H2 hi (st2.m.trans st2.mh), fun H' => ∃ M2 vs pre rest, Stp M1 H1 M2 H' ∧ H' D = some (.lst vs) ∧ M2 D = none ∧ RpA X.K M2 vs pre ∧ pre.length ≤ i + 1 ∧ ys = pre ++ rest ∧ lcD f (xs.drop (i + 1)) = some rest, ?_, ?_⟩
    · rintro H' ⟨M3, vs3, pre3, rest3, a1, a2, a3, a4, a5, a6, a7⟩
      exact ⟨xs.length - (i + 1), by omega, rfl, by omega, M3, vs3, pre3, rest3, a1, a2, a3, a4, a5, a6, a7⟩
    · intro v H' hyld
      obtain ⟨M3, d, st3, hd, rd⟩ := wk.yld i v M2 H2 H' hi st2.m st2.mh hyld
      have hdrop : xs.drop i = d :: xs.drop (i + 1) := by
        have e := List.getElem?_eq_some_iff.mp hd
        obtain ⟨hl, e⟩ := e
        rw [List.drop_eq_getElem_cons hl, e]
      rw [hdrop] at hrest
      have hfd : ∃ r rest', f d = some r ∧ lcD f (xs.drop (i + 1)) = some rest' ∧ rest = (match r with | none => rest' | some z => z :: rest') := by
        unfold lcD at hrest
        split at hrest
        · rename_i r e1 e2
          cases hrest
          exact ⟨none, _, e1, e2, rfl⟩
        · rename_i z r e1 e2
          cases hrest
          exact ⟨some z, _, e1, e2, rfl⟩
        · cases hrest
      obtain ⟨r, rest', e1, e2, e3⟩ := hfd
      obtain ⟨ds, b, hvals, ht, hb0, hb1⟩ := (hf d (List.mem_of_getElem? hd) r e1).go
      have s3 : Sl X.K M3 (wipe σ own) (wipeD env own) := sl_wipe own ((s.mono st1.m).mono (st2.m.trans st3.m))
      have hv3 : H' D = some (.lst vs) := st3.h D _ hv
      have hm3 : M3 D = none := st3.nw D _ hv hm2
      -- the target, the test, the element, in any block
      intro B
      refine htg B M3 H' _ v d ds _ st3.mh rd hvals fun ws rw_ => ⟨wipe_back hown, fun B2 => ?_⟩
      have s4 : Sl X.K M3 (setAll (wipe σ own) tgt.ix ws) (setDs (wipeD env own) tgt.ix ds) := sl_setAll s3 rw_
      refine ht B2 _ M3 H' _ s4 st3.mh fun M4 H4 st4 => ?_
      have st24 := (st2.trans st3).trans st4
      have hv4 : H4 D = some (.lst vs) := st4.h D _ hv3
      have hm4 : M4 D = none := st4.nw D _ hv3 hm3
      cases b with
      | false =>
        rw [if_neg Bool.false_ne_true]
        have er := hb0 rfl
        subst er
        exact ⟨M4, vs, pre, rest', st24, hv4, hm4, dpa_mono (st3.m.trans st4.m) _ _ ra, by omega, by rw [hy, e3], e2⟩
      | true =>
        rw [if_pos rfl]
        obtain ⟨z, rfl, he⟩ := hb1 rfl
        intro B3
        refine he B3 _ M4 H4 _ (s4.mono st4.m) st4.mh fun u M5 H5 st5 ru => ?_
        have hv5 : H5 D = some (.lst vs) := st5.h D _ hv4
        have hm5 : M5 D = none := st5.nw D _ hv4 hm4
        have st25 := st24.trans st5
        have hl : vs.length < sizeLine := by
          rw [rpa_len ra]
          have := lim_line
          omega
        refine ⟨vs, hv5, hl, M5, vs ++ [u], pre ++ [z], rest', ⟨st25.m, fun a o h => ?_, fun a o h => ?_, st25.nw⟩, upd_same, hm5, dpa_app (dpa_mono ((st3.m.trans st4.m).trans st5.m) _ _ ra) (.cons_ ru .nil_), by rw [List.length_append]; exact Nat.succ_le_succ hpl, by rw [hy, e3, List.append_assoc]; rfl, e2⟩
        · rw [upd_ne (ne_of_none h hD)]
          exact st25.h a o h
        · have hne : a ≠ D := fun z => by
            rw [z, hm5] at h
            cases h
          rw [upd_ne hne]
          exact st25.mh a o h
  · have hi' : i = xs.length := by omega
    refine .inl ⟨wk.stop i H2 (by omega) (st2.m.trans st2.mh), ?_⟩
    rw [hi', List.drop_length] at hrest
    cases hrest
    rw [List.append_nil] at hy
    subst hy
    exact q D vs M2 H2 (st1.h.free hD) hm2 (st1.trans st2) hv ra
theorem noSet_fold (h : ∀ es k p, iter ≠ .Set es k p) (x : Value) : foldedSetIterable iter X.env x = pure x := by
  cases iter <;> first | rfl | exact absurd rfl (h _ _ _)
theorem ev_lc {tgt : Tgt} {own : List (Str × Nat)} {xs ys : List D} {f : D → Option (Option D)} (hc : X.calm = true) (hN : X.N.Nodup) (ok : BlkOk X.N X.env.scope scope own) (hset : ∀ es k p, iter ≠ .Set es k p)
    (hi : EVI X tg iter env xs) (htg : ∀ B : Blk X scope, TgOk B.cx tg tgt) (hown : ∀ i ∈ tgt.ix, i ∈ own.map (·.2)) (hlen : xs.length ≤ lim) (hf : ∀ x ∈ xs, ∀ r, f x = some r → TurnIs X scope ifs elt (wipeD env (own.map (·.2))) tgt x r) (hr : lcD f xs = some ys) :
    EVM X (.ListComp elt [⟨tg, iter, ifs, 0⟩] scope pos) env (.list ys) := fun σ M H Q s mh q =>
  ⟨_, pe_lc hc hN pi_w ok (fun s H C cl fp => bG_ok ⟨s, H, C, cl, fp⟩) (fun s H C cl fp => bT_ok ⟨s, H, C, cl, fp⟩) (fun s H C cl fp => bE_ok ⟨s, H, C, cl, fp⟩) (noSet_fold hset), run_lc hi htg hown hlen hf hr s mh q⟩
end
end PU
set_option backward.match.sparseCases false
namespace PU
open PySem PySem.Spec PyProof.Rows L2

/-- after one more item -/
def addS (S : Int → Bool) (k : Int) : Int → Bool := fun j => S j || decide (j = k)
def addN (S : Int → Bool) (n : Nat) (k : Int) : Nat := if S k = true then n else n + 1
section
variable {X : Cx}
theorem add_int {pins : List (Addr × Obj)} {σ : L2.St} {H : Hp} {s : Shared} {E : Value → Shared → Prop} {D : Addr} {S : Int → Bool} {n : Nat} {k : Int} {t : Tok} {Q : Value → Shared → Prop} (I : Inv X pins σ H s) (hD : H D = some (SetO X.w D S n)) (room : n + 1 < scanBound)
    (h : ∀ s', Inv X pins σ (upd H D (SetO X.w D (addS S k) (addN S n k))) s' → Q .none s') : wpAny (model X.prog X.w) X.A (call (.builtin "set.add") [.ref D, .int k t]) Q E s := by
  refine setR_add (setO_get I hD) room fun h' sb new => h _ ?_
  obtain ⟨o, es, ep, tt, ho, r⟩ := new
  exact I.write (e := D) (t' := s.toks + 1) (by rw [hD]; trivial) (.inl rfl) (fun b u hb hu => (sb.2 b hb).trans hu) ⟨o, ho⟩ (setO_new ⟨o, es, ep, tt, ho, r⟩)
/-- one turn on a set at D -/
def scStep (w : World) (D : Addr) (g : TG) (tt : TT) (te : TE) (vs : List Nat) (σ : L2.St) (x : V) (H : Hp) (Nx : Hp → Prop) : Prop :=
  g x (wipe σ vs) H fun σ2 H2 => wipe σ2 vs = wipe σ vs ∧ tt σ2 H2 fun b H3 => match b with
    | false => Nx H3
    | true => te σ2 H3 fun y H4 => ∃ (c : Int) (S : Int → Bool) (n : Nat), y = .int c ∧ H4 D = some (SetO w D S n) ∧ n + 1 < scanBound ∧ Nx (upd H4 D (SetO w D (addS S c) (addN S n c)))
def tSci (w : World) (wi : TI) (g : TG) (tt : TT) (te : TE) (vs : List Nat) : TE := fun σ H Q => wi σ H fun J H1 => ∀ D, H1 D = none →
  ∃ W : Nat → Nat → Hp → Prop, (∃ m, W 0 m (upd H1 D (SetO w D (fun _ => false) 0))) ∧
    ∀ i m H, W i m H → (J.stop i H ∧ Q (.ref D) H) ∨ (J.go i H ∧ ∃ Nx : Hp → Prop, (∀ H', Nx H' → ∃ m', m' < m ∧ W (i + 1) m' H') ∧ ∀ x H', J.yld i H x H' → scStep w D g tt te vs σ x H' Nx)
variable {scope : Scope} {own : List (Str × Nat)} {tg iter elt : Expr} {ifs : List Expr} {pos : Pos} {wi : TI} {g : TG} {tt : TT} {te : TE}
theorem fp_ok {s0 : Shared} {H0 : Hp} {ce : Env} {fp : List Addr} {σ : L2.St} {H : Hp} {s : Shared} (I : Inv (X.blk s0 H0 scope ce fp) [] σ H s) (h : ∀ b ∈ fp, H b = none) : ∀ b ∈ fp, FpOk (X.blk s0 H0 scope ce fp) [] H b := by
  intro b hb
  have hx := I.ok.exf b hb
  refine ⟨h b hb, hx.1, I.ok.exfs b hb, .inl hb, hx.2, fun p hp => ?_⟩
  have hp : p ∈ ([] : List (Addr × Obj)) := hp
  cases hp
/-- the end of a turn: the block's own names are gone, the iterator's places stand -/
theorem turn_end {B : Cx} {fp : List Addr} {tn : Nat → Heap → Prop} {it : Addr} {J : It} {vs : List Nat} {σ σ8 : L2.St} {H' : Hp} {i : Nat} {s7 s' : Shared} (T : Turn B.prog B.w B.K tg J fp it tn) (st : tn i s7.heap) (hw : wipe σ8 vs = wipe σ vs)
    (I : Inv B ([] ++ pinsAt fp s7.heap) σ8 H' s') : Inv B [] (wipe σ vs) H' s' ∧ tn i s'.heap ∧ ∀ b ∈ fp, H' b = none := by
  have pin : ∀ b ∈ fp, ∀ o, s7.heap.get? b = some o → s'.heap.get? b = some o ∧ H' b = none := fun b hb o e => by
    have z := I.pin (b, o) (List.mem_append_right _ (List.mem_append_right _ (mem_pinsAt hb e)))
    exact ⟨z.1, z.2.1⟩
  refine ⟨(I.unpinned (pins := [])).weak (by rw [← hw, wipe_length]) fun j v e => ?_, T.keep _ _ _ st fun b hb o e => (pin b hb o e).1, fun b hb => ?_⟩
  · rw [← hw] at e
    exact (wipe_some e).1
  · obtain ⟨o, e, _⟩ := T.obj _ _ st b hb
    exact (pin b hb o e).2
theorem pe_sci (hc : X.calm = true) (hN : X.N.Nodup) (hi : PI X tg iter wi) (ok : BlkOk X.N X.env.scope scope own)
    (hg : ∀ b : Blk X scope, PG b.cx tg g) (ht : ∀ b : Blk X scope, PTs b.cx ifs tt) (he : ∀ b : Blk X scope, PE b.cx elt te) (hs : ∀ x, foldedSetIterable iter X.env x = pure x) :
    PE X (.SetComp elt [⟨tg, iter, ifs, 0⟩] scope pos) (tSci X.w wi g tt te (own.map (·.2))) := by
  refine ⟨fun pins s σ H Q I h => ?_⟩
  rw [PpSet.eval_SetComp]
  have hfree : ∀ y ∈ scope.names, y.2 = .free → ∃ c, X.env.cells.lookup y.1 = some c := fun y hy e => I.ok.has _ ((ok.free y hy e).elim .inl .inr)
  refine wpAny_comprehension_free (use := none) rfl hs (closure_ok hfree) ok.kind (fun y hy e => by rw [ok.uniq y hy, e]) (thn (hi.run pins s σ H _ I h) fun xv s1 hx => thn hx fun itv s2 h2 => ?_)
  obtain ⟨it, fp, tn, J, H2, rfl, I2, T, st2, f2, q⟩ := h2
  refine PpSet.newSet_ok (newEnv_comp ?_)
  have hDn : H2 s2.heap.objs.size = none := I2.hok.fresh (Nat.le_refl _)
  obtain ⟨W, ⟨m0, w0⟩, turn⟩ := q _ hDn
  generalize hD : s2.heap.objs.size = D at hDn w0 turn ⊢
  generalize hs3 : ({ s2 with heap := s2.heap.push { cls := .type "set", dict := none, data := .set #[] 0 (.fresh 0 0 (!X.w.params.followText "set-order")) } } : Shared) = s3
  have h3 : s3.heap = s2.heap.push { cls := .type "set", dict := none, data := .set #[] 0 (.fresh 0 0 (!X.w.params.followText "set-order")) } := by rw [← hs3]
  have old : ∀ b o, s2.heap.get? b = some o → s3.heap.get? b = some o := fun b o e => by rw [h3]; exact Heap.get?_push_of_some _ e
  have I3 : Inv X pins σ (upd H2 D (SetO X.w D (fun _ => false) 0)) s3 := by
    have z := setO_new (P := X.prog) (H := upd H2 s2.heap.objs.size (SetO X.w s2.heap.objs.size (fun _ => false) 0)) (setR_fresh (h := s2.heap) X.w)
    subst hs3 hD
    exact I2.laid (t' := s2.toks) (fun b o e => Heap.get?_push_of_some _ e) (Nat.le_refl _) z
  have f3 : ∀ b ∈ fp, FpOk X pins (upd H2 D (SetO X.w D (fun _ => false) 0)) b ∧ b < s3.heap.objs.size := fun b hb => by
    obtain ⟨o, e, _⟩ := T.obj _ _ st2 b hb
    have hlt := Heap.lt_size e
    have hlt3 := Heap.lt_size (old b o e)
    refine ⟨⟨?_, (f2 b hb).2⟩, hlt3⟩
    rw [upd_ne (Nat.ne_of_lt (hD ▸ hlt))]
    exact (f2 b hb).1
  have I4 := block_start I3 ok hN f3
  generalize hH3 : upd H2 D (SetO X.w D (fun _ => false) 0) = H3 at I3 I4 w0 f3
  have nfp : ∀ b ∈ fp, H3 b = none := fun b hb => (f3 b hb).1.1
  show codeAny _ _ (.compStart (.SetComp elt [⟨tg, iter, ifs, 0⟩] scope pos) 0 (.ref it) (.ref D) (compEnvC scope (cellsFrom (s3.heap.objs.size + 1) scope.names (cloFrom X.env.cells scope.names [])) s3.heap.objs.size X.env)) (compPost (model X.prog X.w) X.A X.xe none (EP X pins σ Q) (.ref D) s3.heap.objs.size) { s3 with heap := pushCells (s3.heap.push { cls := .type "dict", data := .dict #[] }) scope.names }
  generalize cellsFrom (s3.heap.objs.size + 1) scope.names (cloFrom X.env.cells scope.names []) = cl at I4 ⊢
  have pg := hg ⟨s3, H3, s3.heap.objs.size, cl, fp⟩
  have pt := ht ⟨s3, H3, s3.heap.objs.size, cl, fp⟩
  have pe := he ⟨s3, H3, s3.heap.objs.size, cl, fp⟩
  dsimp only [Blk.cx] at pg pt pe
  have cL : (compEnvC scope cl s3.heap.objs.size X.env).locals = s3.heap.objs.size := rfl
  generalize compEnvC scope cl s3.heap.objs.size X.env = ce at I4 pg pt pe cL ⊢
  have st4 : tn 0 (pushCells (s3.heap.push { cls := .type "dict", data := .dict #[] }) scope.names) := T.keep _ _ _ st2 fun b _ o e => pushCells_keeps _ _ _ _ (Heap.get?_push_of_some _ (old b o e))
  refine PpSet.codeAny_compStart_set (PpSet.compLoopS_any (fun n s' => ∃ i H', Inv (X.blk s3 H3 scope ce fp) [] (wipe σ (own.map (·.2))) H' s' ∧ tn i s'.heap ∧ (∀ b ∈ fp, H' b = none) ∧ W i n H') ?_ m0 ⟨0, H3, I4, st4, nfp, w0⟩) (T.self X.A 0 _ _ _ st4 (PpSet.compLoopS_any (fun n s' => ∃ i H', Inv (X.blk s3 H3 scope ce fp) [] (wipe σ (own.map (·.2))) H' s' ∧ tn i s'.heap ∧ (∀ b ∈ fp, H' b = none) ∧ W i n H') ?_ m0 ⟨0, H3, I4, st4, nfp, w0⟩))
  all_goals
    rintro n s5 ⟨i, H5, I5, st5, n5, w5⟩
    rcases turn i n H5 w5 with ⟨stop, qq⟩ | ⟨go, Nx, hNx, step⟩
    · refine thnF (T.done (X.blk s3 H3 scope ce fp) rfl rfl rfl hc i [] s5 _ H5 (fun _ _ => False) I5 (fp_ok I5 n5) st5 stop) fun r s6 ⟨hr, I6⟩ => ?_
      subst hr
      have I7 : Inv X pins σ H5 s6 := I3.call' (ch := fp) I6.os I6.base I6.hok I6.bare fun b hb => ⟨(f3 b hb).1.2.2.2.1, (f3 b hb).1.2.1, (f3 b hb).1.2.2.2.2.1, (f3 b hb).1.2.2.2.2.2⟩
      have nC : H5 ce.locals = none := I6.free
      obtain ⟨m, hn, _⟩ := I6.loc
      have hn : s6.heap.Ns ce.locals m := hn
      rw [cL] at hn nC
      obtain ⟨p0, p1, p2, p3, p4, p5⟩ := I3.fpOk (Nat.le_refl _) nC
      exact ⟨m, hn, fun h'' sb => ⟨.ref D, H5, I7.turned (t' := s6.toks) (fun b o hb e => (sb.2 b hb).trans e) p0 p1 p3 p4 p5, rfl, qq⟩⟩
    · refine thnF (T.item (X.blk s3 H3 scope ce fp) rfl rfl rfl hc i [] s5 _ H5 (fun _ _ => False) I5 (fp_ok I5 n5) st5 go) fun r s6 ⟨u, hr, h6⟩ => ?_
      subst hr
      refine thnF h6 fun _ s7 ⟨x, H7, I7, r7, y7, st7, n7⟩ => ?_
      refine thnF (pg.run _ s7 _ H7 x u _ (I7.pinned (fp_ok I7 n7) (T.obj _ _ st7)) r7 (step x H7 y7)) fun _ s8 ⟨σ8, H8, I8, hw8, q8⟩ => ?_
      refine thnF (pt.run _ s8 σ8 H8 _ I8 q8) fun b s9 ⟨H9, I9, q9⟩ => ?_
      have fin : ∀ {s' : Shared} {H' : Hp}, Inv (X.blk s3 H3 scope ce fp) ([] ++ pinsAt fp s7.heap) σ8 H' s' → Nx H' → ∃ m, m < n ∧ ∃ i H', Inv (X.blk s3 H3 scope ce fp) [] (wipe σ (own.map (·.2))) H' s' ∧ tn i s'.heap ∧ (∀ b ∈ fp, H' b = none) ∧ W i m H' := fun {s' H'} I' nx => by
        obtain ⟨m', hm, w'⟩ := hNx H' nx
        obtain ⟨a1, a2, a3⟩ := turn_end (B := X.blk s3 H3 scope ce fp) T st7 hw8 I'
        exact ⟨m', hm, i + 1, H', a1, a2, a3, w'⟩
      cases b with
      | false => exact fin I9 q9
      | true =>
        refine thnF (pe.run _ s9 σ8 H9 _ I9 q9) fun z s10 ⟨yv, H10, I10, r10, c, S, k, ey, hD10, room, nx⟩ => ?_
        subst ey
        obtain ⟨t, rfl⟩ := r10
        exact add_int (X := X.blk s3 H3 scope ce fp) I10 hD10 room fun s11 I11 => fin I11 nx
def insU (k : Int) : List Int → List Int
  | [] => [k]
  | x :: r => if k < x then k :: x :: r else if k = x then x :: r else x :: insU k r
def nubS (ns : List Int) : List Int := ns.foldr insU []
theorem insU_mem {k j : Int} : ∀ {r : List Int}, j ∈ insU k r ↔ j = k ∨ j ∈ r
  | [] => by unfold insU; simp
  | x :: r => by
    unfold insU
    split
    · exact List.mem_cons
    · split
      · rename_i h
        subst h
        rw [List.mem_cons]
        constructor
        · exact .inr
        · rintro (h | h)
          · exact .inl h
          · exact h
      · rw [List.mem_cons, List.mem_cons, insU_mem]
        constructor
        · rintro (h | h | h)
          · exact .inr (.inl h)
          · exact .inl h
          · exact .inr (.inr h)
        · rintro (h | h | h)
          · exact .inr (.inl h)
          · exact .inl h
          · exact .inr (.inr h)
theorem insU_up {k : Int} : ∀ {r : List Int}, r.Pairwise (· < ·) → (insU k r).Pairwise (· < ·)
  | [], _ => by unfold insU; exact List.pairwise_singleton _ _
  | x :: r, h => by
    have hx := List.pairwise_cons.mp h
    unfold insU
    split
    · rename_i hk
      refine List.pairwise_cons.mpr ⟨fun j hj => ?_, h⟩
      rcases List.mem_cons.mp hj with rfl | hj
      · exact hk
      · exact Int.lt_trans hk (hx.1 j hj)
    · split
      · exact h
      · refine List.pairwise_cons.mpr ⟨fun j hj => ?_, insU_up hx.2⟩
        rcases insU_mem.mp hj with rfl | hj
        · omega
        · exact hx.1 j hj
theorem nubS_mem {j : Int} : ∀ {ns : List Int}, j ∈ nubS ns ↔ j ∈ ns
  | [] => Iff.rfl
  | n :: ns => by
    show j ∈ insU n (nubS ns) ↔ _
    rw [insU_mem, nubS_mem, List.mem_cons]
theorem nubS_up : ∀ ns : List Int, (nubS ns).Pairwise (· < ·)
  | [] => List.Pairwise.nil
  | n :: ns => insU_up (nubS_up ns)
theorem up_unique : ∀ {a b : List Int}, a.Pairwise (· < ·) → b.Pairwise (· < ·) → (∀ j, j ∈ a ↔ j ∈ b) → a = b
  | [], [], _, _, _ => rfl
  | [], y :: b, _, _, h => by have := (h y).mpr List.mem_cons_self; cases this
  | x :: a, [], _, _, h => by have := (h x).mp List.mem_cons_self; cases this
  | x :: a, y :: b, ha, hb, h => by
    have ha' := List.pairwise_cons.mp ha
    have hb' := List.pairwise_cons.mp hb
    have hxy : x = y := by
      rcases List.mem_cons.mp ((h x).mp List.mem_cons_self) with e | hx
      · exact e
      · rcases List.mem_cons.mp ((h y).mpr List.mem_cons_self) with e | hy
        · exact e.symm
        · have h1 := ha'.1 y hy
          have h2 := hb'.1 x hx
          omega
    subst hxy
    rw [up_unique ha'.2 hb'.2 fun j => ?_]
    constructor
    · intro hj
      rcases List.mem_cons.mp ((h j).mp (List.mem_cons_of_mem _ hj)) with e | hj'
      · have := ha'.1 j hj
        omega
      · exact hj'
    · intro hj
      rcases List.mem_cons.mp ((h j).mpr (List.mem_cons_of_mem _ hj)) with e | hj'
      · have := hb'.1 j hj
        omega
      · exact hj'
def intsU : List D → Option (List Int)
  | [] => some []
  | .int n :: r => (intsU r).map (n :: ·)
  | _ :: _ => none
theorem intsU_eq : ∀ {ds : List D} {ns : List Int}, intsU ds = some ns → ds = ns.map PyData.int
  | [], ns, h => by cases h; rfl
  | d :: r, ns, h => by
    unfold intsU at h
    split at h
    · rename_i e
      cases e
    · rename_i n r' e
      cases e
      obtain ⟨ms, e1, rfl⟩ := Option.map_eq_some_iff.mp h
      rw [List.map_cons, intsU_eq e1]
    · cases h
theorem intsU_map : ∀ ns : List Int, intsU (ns.map PyData.int) = some ns
  | [] => rfl
  | n :: ns => by
    show (intsU (ns.map PyData.int)).map (n :: ·) = _
    rw [intsU_map ns]
    rfl
theorem ints_cons {zs : List Int} {z : D} {pre rest : List D} (h : zs.map PyData.int = pre ++ z :: rest) : ∃ n, z = .int n := by
  have hz : z ∈ zs.map PyData.int := by rw [h]; exact List.mem_append_right _ List.mem_cons_self
  obtain ⟨n, _, e⟩ := List.mem_map.mp hz
  exact ⟨n, e.symm⟩
theorem run_sci {tgt : Tgt} {own : List Nat} {xs : List D} {zs : List Int} {f : D → Option (Option D)} {env : DE} {σ : L2.St} {M H : Hp} {Q : VK} (hi : EVI X tg iter env xs) (htg : ∀ B : Blk X scope, TgOk B.cx tg tgt) (hown : ∀ i ∈ tgt.ix, i ∈ own) (hlen : xs.length ≤ 2000)
    (hf : ∀ x ∈ xs, ∀ r, f x = some r → TurnIs X scope ifs elt (wipeD env own) tgt x r) (hr : lcD f xs = some (zs.map PyData.int)) (s : Sl X.K M σ env) (mh : Same M H)
    (q : ∀ D S n M' H', H D = none → M' D = none → Stp M H M' H' → H' D = some (SetO X.w D S n) → (∀ k : Int, S k = true ↔ k ∈ zs) → n ≤ zs.length → Q (.ref D) H') :
    tSci X.w (WPI X tg iter) (bG X scope tg) (bT X scope ifs) (bE X scope elt) own σ H Q := by
  refine hi σ M H _ s mh fun J M1 H1 st1 wk D hD => ?_
  refine ⟨fun i m H2 => m = xs.length - i ∧ i ≤ xs.length ∧ ∃ M2 S n pre rest, Stp M1 H1 M2 H2 ∧ H2 D = some (SetO X.w D S n) ∧ M2 D = none ∧ (∀ k : Int, S k = true ↔ PyData.int k ∈ pre) ∧ n ≤ pre.length ∧ pre.length ≤ i ∧ zs.map PyData.int = pre ++ rest ∧ lcD f (xs.drop i) = some rest,
    ⟨xs.length, rfl, Nat.zero_le _, M1, _, 0, [], _, Stp.mine st1.mh hD, upd_same, st1.mh.free hD, fun k => ⟨fun z => (by cases z), fun z => (by cases z)⟩, Nat.le_refl _, Nat.le_refl _, rfl, hr⟩, ?_⟩
  rintro i m H2 ⟨rfl, hile, M2, S, n, pre, rest, st2, hv, hm2, hS, hn, hpl, hy, hrest⟩
  by_cases hi : i < xs.length
  · refine .inr ⟨wk.go i H2 hi (st2.m.trans st2.mh), fun H' => ∃ M2 S n pre rest, Stp M1 H1 M2 H' ∧ H' D = some (SetO X.w D S n) ∧ M2 D = none ∧ (∀ k : Int, S k = true ↔ PyData.int k ∈ pre) ∧ n ≤ pre.length ∧ pre.length ≤ i + 1 ∧ zs.map PyData.int = pre ++ rest ∧ lcD f (xs.drop (i + 1)) = some rest, ?_, ?_⟩
    · rintro H' ⟨M3, S3, n3, pre3, rest3, a1, a2, a3, a4, a5, a6, a7, a8⟩
      exact ⟨xs.length - (i + 1), by omega, rfl, by omega, M3, S3, n3, pre3, rest3, a1, a2, a3, a4, a5, a6, a7, a8⟩
    · intro v H' hyld
      obtain ⟨M3, d, st3, hd, rd⟩ := wk.yld i v M2 H2 H' hi st2.m st2.mh hyld
      have hdrop : xs.drop i = d :: xs.drop (i + 1) := by
        obtain ⟨hl, e⟩ := List.getElem?_eq_some_iff.mp hd
        rw [List.drop_eq_getElem_cons hl, e]
      rw [hdrop] at hrest
      have hfd : ∃ r rest', f d = some r ∧ lcD f (xs.drop (i + 1)) = some rest' ∧ rest = (match r with | none => rest' | some z => z :: rest') := by
        unfold lcD at hrest
        split at hrest
        · rename_i r e1 e2
          cases hrest
          exact ⟨none, _, e1, e2, rfl⟩
        · rename_i z r e1 e2
          cases hrest
          exact ⟨some z, _, e1, e2, rfl⟩
        · cases hrest
      obtain ⟨r, rest', e1, e2, e3⟩ := hfd
      obtain ⟨ds, b, hvals, ht, hb0, hb1⟩ := (hf d (List.mem_of_getElem? hd) r e1).go
      have s3 : Sl X.K M3 (wipe σ own) (wipeD env own) := sl_wipe own ((s.mono st1.m).mono (st2.m.trans st3.m))
      have hv3 := st3.h D _ hv
      have hm3 : M3 D = none := st3.nw D _ hv hm2
      intro B
      refine htg B M3 H' _ v d ds _ st3.mh rd hvals fun ws rw_ => ⟨wipe_back hown, fun B2 => ?_⟩
      have s4 : Sl X.K M3 (setAll (wipe σ own) tgt.ix ws) (setDs (wipeD env own) tgt.ix ds) := sl_setAll s3 rw_
      refine ht B2 _ M3 H' _ s4 st3.mh fun M4 H4 st4 => ?_
      have st24 := (st2.trans st3).trans st4
      have hv4 := st4.h D _ hv3
      have hm4 : M4 D = none := st4.nw D _ hv3 hm3
      cases b with
      | false =>
        have er := hb0 rfl
        subst er
        exact ⟨M4, S, n, pre, rest', st24, hv4, hm4, hS, hn, by omega, by rw [hy, e3], e2⟩
      | true =>
        obtain ⟨z, rfl, he⟩ := hb1 rfl
        rw [e3] at hy
        obtain ⟨c, rfl⟩ := ints_cons hy
        intro B3
        refine he B3 _ M4 H4 _ (s4.mono st4.m) st4.mh fun u M5 H5 st5 ru => ?_
        cases ru
        have hv5 := st5.h D _ hv4
        have hm5 : M5 D = none := st5.nw D _ hv4 hm4
        have st25 := st24.trans st5
        have hsb : n + 1 < scanBound := by
          have hb : 2001 < scanBound := by decide +kernel
          omega
        refine ⟨c, S, n, rfl, hv5, hsb, M5, addS S c, addN S n c, pre ++ [.int c], rest', ⟨st25.m, fun a o h => ?_, fun a o h => ?_, st25.nw⟩, upd_same, hm5, fun k => ?_, ?_, by rw [List.length_append]; exact Nat.succ_le_succ hpl, by rw [hy, List.append_assoc]; rfl, e2⟩
        · rw [upd_ne (ne_of_none h hD)]
          exact st25.h a o h
        · have hne : a ≠ D := fun z => by
            rw [z, hm5] at h
            cases h
          rw [upd_ne hne]
          exact st25.mh a o h
        · unfold addS
          rw [Bool.or_eq_true, decide_eq_true_eq, hS k, List.mem_append, List.mem_singleton]
          exact or_congr_right ⟨fun e => by rw [e], fun e => by cases e; rfl⟩
        · unfold addN
          rw [List.length_append, List.length_singleton]
          split <;> omega
  · have hi' : i = xs.length := by omega
    refine .inl ⟨wk.stop i H2 (by omega) (st2.m.trans st2.mh), ?_⟩
    rw [hi', List.drop_length] at hrest
    cases hrest
    rw [List.append_nil] at hy
    subst hy
    refine q D S n M2 H2 (st1.h.free hD) hm2 (st1.trans st2) hv (fun k => (hS k).trans ?_) (by rw [List.length_map] at hn; exact hn)
    constructor
    · intro h
      obtain ⟨k', hk, e⟩ := List.mem_map.mp h
      cases e
      exact hk
    · exact fun h => List.mem_map_of_mem h
theorem rpa_num {K : PySem.W.Frag} {M : Hp} : ∀ ns : List Int, RpA K M (ns.map V.int) (ns.map PyData.int)
  | [] => .nil_
  | n :: ns => .cons_ (.int_ n) (rpa_num ns)
theorem ev_sortsc {env : DE} {p cpos : Pos} {tgt : Tgt} {own : List (Str × Nat)} {xs : List D} {zs : List Int} {f : D → Option (Option D)} (hg : Gl X "sorted") (hm : X.mg "sorted" = none) (hc : X.calm = true) (hN : X.N.Nodup) (ok : BlkOk X.N X.env.scope scope own) (hset : ∀ es k p, iter ≠ .Set es k p)
    (hi : EVI X tg iter env xs) (htg : ∀ B : Blk X scope, TgOk B.cx tg tgt) (hown : ∀ i ∈ tgt.ix, i ∈ own.map (·.2)) (hlen : xs.length ≤ 2000) (hz : zs.length < 64) (hf : ∀ x ∈ xs, ∀ r, f x = some r → TurnIs X scope ifs elt (wipeD env (own.map (·.2))) tgt x r) (hr : lcD f xs = some (zs.map PyData.int)) :
    EVM X (.Call (.Name "sorted" p) [.SetComp elt [⟨tg, iter, ifs, 0⟩] scope pos] [] cpos) env (.list ((nubS zs).map PyData.int)) := fun σ M H Q s mh q => by
  refine ⟨_, pe_callB (cr_sortedSet hc) hg hm (by decide +kernel) (pa_cons (pe_sci hc hN pi_w ok (fun b => bG_ok b) (fun b => bT_ok b) (fun b => bE_ok b) (noSet_fold hset)) pa_nil) (by decide +kernel) (by decide +kernel), ?_⟩
  show tSci X.w (WPI X tg iter) (bG X scope tg) (bT X scope ifs) (bE X scope elt) (own.map (·.2)) σ H fun x H1 => rSortedSet X.w [x] H1 Q
  refine run_sci hi htg hown hlen hf hr s mh fun D S n M' H' hD hMD st hv hS hn => ?_
  refine ⟨D, S, n, rfl, hv, by omega, fun ns pp hup hmem hl hp => ?_⟩
  have e : ns = nubS zs := up_unique hup (nubS_up zs) fun j => by rw [hmem, hS, nubS_mem]
  subst e
  have hpM : M' pp = none := st.mh.free hp
  exact (show PostF X.K M H _ Q from q) pp _ M' _ (st.h.free hp) hpM (st.trans (Stp.mine st.mh hp)) upd_same (rpa_num _)
def pickL {α : Type} (xs : List α) (lo hi : Option Int) (k : Int) : List α := (sliceRange (sliceBounds lo hi (some k) xs.length).1 (sliceBounds lo hi (some k) xs.length).2.1 (sliceBounds lo hi (some k) xs.length).2.2).filterMap fun i => xs[i]?
theorem vals_pick {xs : List V} {its : List Value} (r : Vals xs its) : ∀ ix : List Nat, Vals (ix.filterMap fun i => xs[i]?) (ix.filterMap fun i => its.toArray[i]?)
  | [] => .nil
  | j :: ix => by
    have ih := vals_pick r ix
    rw [List.filterMap_cons, List.filterMap_cons]
    have hlen := r.length
    by_cases h : j < xs.length
    · have e1 : xs[j]? = some xs[j] := List.getElem?_eq_getElem h
      obtain ⟨u, e2, ru⟩ := Vals.get r e1
      rw [e1, List.getElem?_toArray, e2]
      exact .cons ru ih
    · have e1 : xs[j]? = none := List.getElem?_eq_none (by omega)
      have e2 : its[j]? = none := List.getElem?_eq_none (by omega)
      rw [e1, List.getElem?_toArray, e2]
      exact ih
theorem pick_len {α : Type} (xs : List α) (ix : List Nat) : (ix.filterMap fun i => xs[i]?).length ≤ ix.length := List.length_filterMap_le _ _
theorem slicePick_list {its : List Value} {lo hi : Option Int} {k : Int} : slicePick its.toArray lo hi (some k) = (pickL its lo hi k).toArray := by
  unfold slicePick pickL
  rw [List.size_toArray]
  simp only [List.getElem?_toArray]
theorem pickL_map {α β : Type} (f : α → β) (xs : List α) (lo hi : Option Int) (k : Int) : pickL (xs.map f) lo hi k = (pickL xs lo hi k).map f := by
  unfold pickL
  rw [List.length_map, List.map_filterMap]
  simp only [List.getElem?_map]
theorem pickL_len {α : Type} (xs : List α) (lo hi : Option Int) (k : Int) : (pickL xs lo hi k).length ≤ xs.length := by
  have h := slicePick_size_le (xs.map fun _ => Value.none).toArray lo hi (some k)
  rw [slicePick_list, pickL_map, List.size_toArray, List.size_toArray, List.length_map, List.length_map] at h
  exact h
theorem rpa_pick {K : PySem.W.Frag} {M : Hp} {vs : List V} {ds : List D} (r : RpA K M vs ds) (lo hi : Option Int) (k : Int) : RpA K M (pickL vs lo hi k) (pickL ds lo hi k) := by
  have hl := rpa_len r
  unfold pickL
  rw [hl]
  generalize (sliceRange (sliceBounds lo hi (some k) ds.length).1 (sliceBounds lo hi (some k) ds.length).2.1 (sliceBounds lo hi (some k) ds.length).2.2) = ix
  induction ix with
  | nil => exact .nil_
  | cons j ix ih =>
    rw [List.filterMap_cons, List.filterMap_cons]
    by_cases h : j < ds.length
    · have e1 : ds[j]? = some ds[j] := List.getElem?_eq_getElem h
      obtain ⟨v, e2, rv⟩ := dpa_get r e1
      rw [e1, e2]
      exact .cons_ rv ih
    · have e1 : ds[j]? = none := List.getElem?_eq_none (by omega)
      have e2 : vs[j]? = none := List.getElem?_eq_none (by omega)
      rw [e1, e2]
      exact ih
/-- data: every k-th item -/
def stepD (k : Int) : D → Option Int → Option Int → Option D
  | .list xs, lo, hi => some (.list (pickL xs lo hi k))
  | _, _, _ => none
def tStep (K : PySem.W.Frag) (k : Int) (te : TE) (tl th : TO) : TE := fun σ H Q => te σ H fun x H1 => tl σ H1 fun l H2 => th σ H2 fun u H3 => ∃ a xs, x = .ref a ∧ SqL K H3 a xs ∧ (pickL xs l u k).length ≤ xs.length ∧ ∀ p, H3 p = none → Q (.ref p) (upd H3 p (.lst (pickL xs l u k)))
theorem pe_step {e : Expr} {te : TE} {lo hi : Option Expr} {tl th : TO} {k : Int} {j : Nat} {p1 p3 : Pos} (hk : k ≠ 0) (he : PE X e te) (hl : PO X lo tl) (hu : PO X hi th) : PE X (.Subscript e (.Slice lo hi (some (.Constant (.int k) j p1)) p3) pos) (tStep X.K k te tl th) := by
  refine ⟨fun pins s σ H Q I h => ?_⟩
  refine Subscript_ (thn (he.run pins s σ H _ I h) fun v s1 ⟨x, H1, I1, r1, q1⟩ => ?_)
  refine wpAny_Slice (thn (hl.run pins s1 σ H1 _ I1 q1) fun vl s2 ⟨l, H2, I2, pl, q2⟩ => thn (hu.run pins s2 σ H2 _ I2 q2) fun vu s3 ⟨u, H3, I3, pu, q3⟩ => ?_)
  have hst : PO X (some (.Constant (.int k) j p1)) (tPart (tC (.int k))) := po_some pe_int
  refine thn (hst.run pins s3 σ H3 (fun o H4 => o = some k ∧ H4 = H3) I3 ⟨k, rfl, rfl, rfl⟩) fun vs s4 ⟨o, H4, I4, ps, eo, e4⟩ => ?_
  subst eo e4
  obtain ⟨a, xs, ex, hx, hlen, q⟩ := q3
  subst ex
  cases r1
  have I5 : Inv X pins σ H4 { s4 with heap := s4.heap.push { cls := .type "slice", data := .fields #[vl, vu, vs] } } := I4.kept (t' := s4.toks) fun b ob z => Heap.get?_push_of_some _ z
  obtain ⟨its, r, ht, hz⟩ := I5.list hx
  have hl2 := r.length
  show wpAny (model X.prog X.w) X.A (subscriptTail e (.Slice lo hi (some (.Constant (.int k) j p1)) p3) (.ref a) (.ref s4.heap.objs.size)) (EP X pins σ Q) X.xe { s4 with heap := s4.heap.push { cls := .type "slice", data := .fields #[vl, vu, vs] } }
  refine tail_any (ops := [.ref a, .ref s4.heap.objs.size]) ht.isList.typeIs (PySem.slot_list_getitem.lookup) ?_ (by with_unfolding_all rfl)
  refine wpAny_getItem_list_slice ht.isList (Heap.IsSliceOf.new _ vl vu vs) pl pu ps (fun z => hk (Option.some.inj z)) ?_ (by rw [List.size_toArray]; omega)
  rw [slicePick_list]
  refine ⟨.ref _, _, I5.laid (t' := s4.toks) (o := .lst (pickL xs l u k)) (fun b ob z => Heap.get?_push_of_some _ z) (Nat.le_refl _) ?_, rfl, q _ (I5.hok.fresh (Nat.le_refl _))⟩
  have hv : Vals (pickL xs l u k) (pickL its l u k) := by
    have z := vals_pick r (sliceRange (sliceBounds l u (some k) xs.length).1 (sliceBounds l u (some k) xs.length).2.1 (sliceBounds l u (some k) xs.length).2.2)
    unfold pickL
    rw [← hl2]
    simp only [List.getElem?_toArray] at z
    exact z
  exact ⟨Nat.le_trans hlen hz, _, 0, hv, Heap.get?_push_size _ rfl⟩
theorem ev_step {env : DE} {a : Expr} {x d : D} {lo hi : Option Expr} {l h : Option Int} {k : Int} {j : Nat} {p1 p3 : Pos} (hk : k ≠ 0) (ha : EV X a env x) (hl : EVO X lo env l) (hh : EVO X hi env h) (e : stepD k x l h = some d) : EVM X (.Subscript a (.Slice lo hi (some (.Constant (.int k) j p1)) p3) pos) env d := fun σ M H Q s mh q => by
  refine ⟨_, pe_step hk pe_w po_w po_w, ha.run s mh fun v M1 H1 st s1 r => hl σ M1 H1 _ s1 st.mh fun M2 H2 st2 => hh σ M2 H2 _ (s1.mono st2.m) st2.mh fun M3 H3 st3 => ?_⟩
  unfold stepD at e
  split at e
  · rename_i xs
    cases e
    cases r with
    | list_ h1 ra =>
      rename_i b vs
      have st13 := st2.trans st3
      have ra3 := dpa_mono st13.m _ _ ra
      refine ⟨b, vs, rfl, .inl (rd_up (st13.m.trans st3.mh) h1), ?_, fun p hp => ?_⟩
      · exact pickL_len _ _ _ _
      · exact (show PostF X.K M H _ Q from q) p _ M3 _ ((st.trans st13).h.free hp) (st3.mh.free hp) ((st.trans st13).trans (Stp.mine st3.mh hp)) upd_same (rpa_pick ra3 _ _ _)
  · cases e
end
end PU
set_option backward.match.sparseCases false
namespace PU
open PySem PySem.Spec PyProof.Rows L2

inductive Sv | d (x : D) | own (xs : List D) | ownK (ks : List (Key × D))
abbrev SE := List (Option Sv)
def thaw : Option Sv → Option D
  | some (.d x) => some x
  | some (.own xs) => some (.list xs)
  | some (.ownK ks) => some (dictD ks)
  | none => none
def frz1 : Option Sv → Option Sv
  | some (.own xs) => some (.d (.list xs))
  | some (.ownK ks) => some (.d (dictD ks))
  | o => o
def thawS (env : SE) : DE := env.map thaw
def frzS (env : SE) : SE := env.map frz1
theorem thaw_frz (env : SE) : thawS (frzS env) = thawS env := by
  unfold thawS frzS
  rw [List.map_map]
  congr 1
  funext o
  cases o with
  | none => rfl
  | some v => cases v <;> rfl

/-- a dict's pairs, as they stand -/
def dV (ks : List (Key × D)) : List (Key × V) := ks.map fun p => (p.1, atV p.2)
structure SRel (K : PySem.W.Frag) (M0 H0 M H : Hp) (σ : L2.St) (env : SE) : Prop where
  len : σ.length = env.length
  st : Stp M0 H0 M H
  data : ∀ (i : Nat) (x : D), env[i]? = some (some (.d x)) → ∃ v, σ[i]? = some (some v) ∧ Rp K M v x
  own : ∀ (i : Nat) (xs : List D), env[i]? = some (some (.own xs)) → ∃ a vs, σ[i]? = some (some (.ref a)) ∧ M a = none ∧ H0 a = none ∧ H a = some (.lst vs) ∧ RpA K M vs xs
  dist : ∀ (i j : Nat) (xs ys : List D) (a : Addr), env[i]? = some (some (.own xs)) → env[j]? = some (some (.own ys)) → σ[i]? = some (some (.ref a)) → σ[j]? = some (some (.ref a)) → i = j
  ownk : ∀ (i : Nat) (ks : List (Key × D)), env[i]? = some (some (.ownK ks)) → ∃ a, σ[i]? = some (some (.ref a)) ∧ M a = none ∧ H0 a = none ∧ H a = some (.dK (dV ks)) ∧ (ks.all fun p => atD p.2) = true
  distk : ∀ (i j : Nat) (xs ys : List (Key × D)) (a : Addr), env[i]? = some (some (.ownK xs)) → env[j]? = some (some (.ownK ys)) → σ[i]? = some (some (.ref a)) → σ[j]? = some (some (.ref a)) → i = j
section
variable {K : PySem.W.Frag} {M0 H0 M H M1 H1 : Hp} {σ : L2.St} {env : SE}
def ownAt (σ : L2.St) (env : SE) (a : Addr) : Prop := (∃ (i : Nat) (xs : List D), env[i]? = some (some (.own xs)) ∧ σ[i]? = some (some (.ref a))) ∨ ∃ (i : Nat) (ks : List (Key × D)), env[i]? = some (some (.ownK ks)) ∧ σ[i]? = some (some (.ref a))
noncomputable def froz (M H : Hp) (σ : L2.St) (env : SE) : Hp := open Classical in fun a => if ownAt σ env a then H a else M a
theorem froz_in {a : Addr} (h : ownAt σ env a) : froz M H σ env a = H a := by unfold froz; rw [if_pos h]
theorem froz_out {a : Addr} (h : ¬ ownAt σ env a) : froz M H σ env a = M a := by unfold froz; rw [if_neg h]
theorem SRel.at_own (s : SRel K M0 H0 M H σ env) {a : Addr} (h : ownAt σ env a) : M a = none ∧ H0 a = none ∧ ∃ o, H a = some o ∧ NoTup (some o) := by
  rcases h with ⟨i, xs, h1, h2⟩ | ⟨i, ks, h1, h2⟩
  · obtain ⟨b, vs, e1, e2, e3, e4, _⟩ := s.own i xs h1
    rw [h2] at e1
    cases e1
    exact ⟨e2, e3, _, e4, trivial⟩
  · obtain ⟨b, e1, e2, e3, e4, _⟩ := s.ownk i ks h1
    rw [h2] at e1
    cases e1
    exact ⟨e2, e3, _, e4, trivial⟩
theorem SRel.froz_sub (s : SRel K M0 H0 M H σ env) : Same M (froz M H σ env) := fun a o e => by
  rw [froz_out fun w => by rw [(s.at_own w).1] at e; cases e]
  exact e
theorem SRel.froz_up (s : SRel K M0 H0 M H σ env) : Same (froz M H σ env) H := fun a o e => by
  by_cases w : ownAt σ env a
  · rw [froz_in w] at e
    exact e
  · rw [froz_out w] at e
    exact s.st.mh a o e
theorem SRel.froz_st (s : SRel K M0 H0 M H σ env) : Stp M0 H0 (froz M H σ env) H :=
  ⟨s.st.m.trans s.froz_sub, s.st.h, s.froz_up, fun a o h n => by
    rw [froz_out fun w => by rw [(s.at_own w).2.1] at h; cases h]
    exact s.st.nw a o h n⟩
theorem getThaw {i : Nat} {d : D} (h : (thawS env)[i]? = some (some d)) : env[i]? = some (some (.d d)) ∨ (∃ xs, d = .list xs ∧ env[i]? = some (some (.own xs))) ∨ ∃ ks, d = dictD ks ∧ env[i]? = some (some (.ownK ks)) := by
  unfold thawS at h
  rw [List.getElem?_map] at h
  cases e : env[i]? with
  | none => rw [e] at h; cases h
  | some o =>
    rw [e] at h
    cases o with
    | none => cases h
    | some v =>
      cases v with
      | d x => cases h; exact .inl rfl
      | own xs => cases h; exact .inr (.inl ⟨xs, rfl, rfl⟩)
      | ownK ks => cases h; exact .inr (.inr ⟨ks, rfl, rfl⟩)
theorem SRel.sl (s : SRel K M0 H0 M H σ env) : Sl K (froz M H σ env) σ (thawS env) where
  len := by unfold thawS; rw [List.length_map, s.len]
  at_ := fun i d h => by
    rcases getThaw h with g | ⟨xs, rfl, g⟩ | ⟨ks, rfl, g⟩
    · obtain ⟨v, e, r⟩ := s.data i d g
      exact ⟨v, e, dp_mono s.froz_sub _ _ r⟩
    · obtain ⟨a, vs, e1, e2, e3, e4, r⟩ := s.own i xs g
      refine ⟨.ref a, e1, .list_ (.inl ?_) (dpa_mono s.froz_sub _ _ r)⟩
      rw [froz_in (.inl ⟨i, xs, g, e1⟩)]
      exact e4
    · obtain ⟨a, e1, e2, e3, e4, r⟩ := s.ownk i ks g
      refine ⟨.ref a, e1, .dict_ ks r (.inl ?_)⟩
      rw [froz_in (.inr ⟨i, ks, g, e1⟩)]
      exact e4
/-- behind an expression: what is one's own is one's own again -/
theorem SRel.after (s : SRel K M0 H0 M H σ env) (st : Stp (froz M H σ env) H M1 H1) : SRel K M0 H0 (lessOf M1 (ownAt σ env)) H1 σ env where
  len := s.len
  st := by
    have z := s.froz_st.trans st
    refine ⟨fun a o e => ?_, z.h, fun a o e => ?_, fun a o h n => ?_⟩
    · have e' : M a = some o := s.st.m a o e
      rw [lessOf_out fun w => by rw [(s.at_own w).1] at e'; cases e']
      exact z.m a o e
    · by_cases w : ownAt σ env a
      · rw [lessOf_in w] at e; cases e
      · rw [lessOf_out w] at e
        exact z.mh a o e
    · by_cases w : ownAt σ env a
      · exact lessOf_in w
      · rw [lessOf_out w]
        exact z.nw a o h n
  data := fun i x h => by
    obtain ⟨v, e, r⟩ := s.data i x h
    exact ⟨v, e, dp_mono (fun a o q => by
      rw [lessOf_out fun w => by rw [(s.at_own w).1] at q; cases q]
      exact st.m a o (s.froz_sub a o q)) _ _ r⟩
  own := fun i xs h => by
    obtain ⟨a, vs, e1, e2, e3, e4, r⟩ := s.own i xs h
    exact ⟨a, vs, e1, lessOf_in (.inl ⟨i, xs, h, e1⟩), e3, st.h a _ e4, dpa_mono (fun a o q => by
      rw [lessOf_out fun w => by rw [(s.at_own w).1] at q; cases q]
      exact st.m a o (s.froz_sub a o q)) _ _ r⟩
  dist := s.dist
  ownk := fun i ks h => by
    obtain ⟨a, e1, e2, e3, e4, r⟩ := s.ownk i ks h
    exact ⟨a, e1, lessOf_in (.inr ⟨i, ks, h, e1⟩), e3, st.h a _ e4, r⟩
  distk := s.distk
theorem SRel.after_m (s : SRel K M0 H0 M H σ env) (st : Stp (froz M H σ env) H M1 H1) : Same M (lessOf M1 (ownAt σ env)) := fun a o q => by
  rw [lessOf_out fun w => by rw [(s.at_own w).1] at q; cases q]
  exact st.m a o (s.froz_sub a o q)
theorem SRel.own_lst (s : SRel K M0 H0 M H σ env) (st : Stp (froz M H σ env) H M1 H1) : ∀ a, ownAt σ env a → NoTup (M1 a) := fun a w => by
  obtain ⟨_, _, o, e, n⟩ := s.at_own w
  rw [st.m a o (by rw [froz_in w]; exact e)]
  exact n
/-- .. or all is read for ever -/
theorem getFrz {i : Nat} {x : D} (h : (frzS env)[i]? = some (some (.d x))) : (thawS env)[i]? = some (some x) := by
  rw [← thaw_frz]
  unfold thawS
  rw [List.getElem?_map, h]
  rfl
theorem noFrz {i : Nat} {xs : List D} (h : (frzS env)[i]? = some (some (.own xs))) : False := by
  unfold frzS at h
  rw [List.getElem?_map] at h
  cases e : env[i]? with
  | none => rw [e] at h; cases h
  | some o =>
    rw [e] at h
    cases o with
    | none => cases h
    | some v => cases v <;> cases h
theorem noFrzK {i : Nat} {ks : List (Key × D)} (h : (frzS env)[i]? = some (some (.ownK ks))) : False := by
  unfold frzS at h
  rw [List.getElem?_map] at h
  cases e : env[i]? with
  | none => rw [e] at h; cases h
  | some o =>
    rw [e] at h
    cases o with
    | none => cases h
    | some v => cases v <;> cases h
theorem SRel.freeze (s : SRel K M0 H0 M H σ env) (st : Stp (froz M H σ env) H M1 H1) : SRel K M0 H0 M1 H1 σ (frzS env) where
  len := by unfold frzS; rw [List.length_map, s.len]
  st := s.froz_st.trans st
  data := fun i x h => by
    obtain ⟨v, e, r⟩ := s.sl.at_ i x (getFrz h)
    exact ⟨v, e, dp_mono st.m _ _ r⟩
  own := fun i xs h => (noFrz h).elim
  dist := fun i j xs ys a h => (noFrz h).elim
  ownk := fun i ks h => (noFrzK h).elim
  distk := fun i j xs ys a h => (noFrzK h).elim
/-- the names behind an expression whose value is d -/
def aft (fl : Bool) (env : SE) : SE := if fl then env else frzS env
theorem SRel.eval {X : Cx} {e : Expr} {d : D} {Q : VK} (h : EV X e (thawS env) d) (s : SRel X.K M0 H0 M H σ env) (k : ∀ v M' H', SRel X.K M0 H0 M' H' σ (aft (flat d) env) → Same M M' → Rp X.K M' v d → Q v H') : WE X e σ H Q := by
  refine h σ (froz M H σ env) H Q s.sl s.froz_up fun v M1 H1 st r => ?_
  cases hf : flat d with
  | true =>
    rw [hf] at k
    exact k v _ H1 (s.after st) (s.after_m st) (dp_less (s.own_lst st) d v hf r)
  | false =>
    rw [hf] at k
    exact k v M1 H1 (s.freeze st) (s.froz_sub.trans st.m) r
theorem SRel.test {X : Cx} {e : Expr} {b : Bool} {Q : Bool → Hp → Prop} (h : EVT X e (thawS env) b) (s : SRel X.K M0 H0 M H σ env) (k : ∀ M' H', SRel X.K M0 H0 M' H' σ env → Same M M' → Q b H') : WT X e σ H Q :=
  h σ (froz M H σ env) H Q s.sl s.froz_up fun M1 H1 st => k _ H1 (s.after st) (s.after_m st)
/-- a new list -/
structure NewL (K : PySem.W.Frag) (H0 M H : Hp) (σ : L2.St) (env : SE) (p : Addr) (vs : List V) (ds : List D) : Prop where
  h0 : H0 p = none
  m : M p = none
  h : H p = some (.lst vs)
  r : RpA K M vs ds
  far : ∀ (i : Nat) (xs : List D), env[i]? = some (some (.own xs)) → σ[i]? ≠ some (some (.ref p))
theorem SRel.evalF {X : Cx} {e : Expr} {ds : List D} {Q : VK} (h : EVM X e (thawS env) (.list ds)) (s : SRel X.K M0 H0 M H σ env)
    (k : ∀ p vs M' H', SRel X.K M0 H0 M' H' σ (aft (flats ds) env) → Same M M' → NewL X.K H0 M' H' σ (aft (flats ds) env) p vs ds → Q (.ref p) H') : WE X e σ H Q := by
  refine h σ (froz M H σ env) H Q s.sl s.froz_up fun p vs M1 H1 hp mp st hv r => ?_
  have h0 : H0 p = none := s.st.h.free hp
  have far : ¬ ownAt σ env p := fun w => by
    obtain ⟨_, _, us, e, _⟩ := s.at_own w
    rw [hp] at e
    cases e
  cases hf : flats ds with
  | true =>
    rw [hf] at k
    refine k p vs _ H1 (s.after st) (s.after_m st) ⟨h0, ?_, hv, dpa_less (s.own_lst st) ds vs hf r, fun i xs h1 h2 => far (.inl ⟨i, xs, h1, h2⟩)⟩
    rw [lessOf_out far]
    exact mp
  | false =>
    rw [hf] at k
    exact k p vs M1 H1 (s.freeze st) (s.froz_sub.trans st.m) ⟨h0, mp, hv, r, fun i xs h1 _ => noFrz h1⟩
theorem SRel.put {i : Nat} {v : V} {x : D} (s : SRel K M0 H0 M H σ env) (r : Rp K M v x) : SRel K M0 H0 M H (σ.set i (some v)) (env.set i (some (.d x))) where
  len := by rw [List.length_set, List.length_set, s.len]
  st := s.st
  data := fun j y h => by
    by_cases hj : i = j
    · subst hj
      by_cases hl : i < env.length
      · rw [List.getElem?_set_self hl] at h
        cases h
        exact ⟨v, List.getElem?_set_self (by rw [s.len]; exact hl), r⟩
      · rw [List.getElem?_eq_none (by rw [List.length_set]; omega)] at h
        cases h
    · rw [List.getElem?_set_ne hj] at h
      obtain ⟨u, h1, h2⟩ := s.data j y h
      exact ⟨u, by rw [List.getElem?_set_ne hj]; exact h1, h2⟩
  own := fun j xs h => by
    by_cases hj : i = j
    · subst hj
      by_cases hl : i < env.length
      · rw [List.getElem?_set_self hl] at h
        cases h
      · rw [List.getElem?_eq_none (by rw [List.length_set]; omega)] at h
        cases h
    · rw [List.getElem?_set_ne hj] at h
      obtain ⟨a, vs, h1, h2⟩ := s.own j xs h
      exact ⟨a, vs, by rw [List.getElem?_set_ne hj]; exact h1, h2⟩
  dist := fun j k xs ys a h1 h2 h3 h4 => by
    have ne : ∀ (j : Nat) (xs : List D), (env.set i (some (Sv.d x)))[j]? = some (some (.own xs)) → i ≠ j := fun j xs h e => by
      subst e
      by_cases hl : i < env.length
      · rw [List.getElem?_set_self hl] at h
        cases h
      · rw [List.getElem?_eq_none (by rw [List.length_set]; omega)] at h
        cases h
    have n1 := ne j xs h1
    have n2 := ne k ys h2
    rw [List.getElem?_set_ne n1] at h1 h3
    rw [List.getElem?_set_ne n2] at h2 h4
    exact s.dist j k xs ys a h1 h2 h3 h4
  ownk := fun j ks h => by
    by_cases hj : i = j
    · subst hj
      by_cases hl : i < env.length
      · rw [List.getElem?_set_self hl] at h
        cases h
      · rw [List.getElem?_eq_none (by rw [List.length_set]; omega)] at h
        cases h
    · rw [List.getElem?_set_ne hj] at h
      obtain ⟨a, h1, h2⟩ := s.ownk j ks h
      exact ⟨a, by rw [List.getElem?_set_ne hj]; exact h1, h2⟩
  distk := fun j k xs ys a h1 h2 h3 h4 => by
    have ne : ∀ (j : Nat) (xs : List (Key × D)), (env.set i (some (Sv.d x)))[j]? = some (some (.ownK xs)) → i ≠ j := fun j xs h e => by
      subst e
      by_cases hl : i < env.length
      · rw [List.getElem?_set_self hl] at h
        cases h
      · rw [List.getElem?_eq_none (by rw [List.length_set]; omega)] at h
        cases h
    have n1 := ne j xs h1
    have n2 := ne k ys h2
    rw [List.getElem?_set_ne n1] at h1 h3
    rw [List.getElem?_set_ne n2] at h2 h4
    exact s.distk j k xs ys a h1 h2 h3 h4
theorem SRel.putOwn {i : Nat} {p : Addr} {vs : List V} {ds : List D} (s : SRel K M0 H0 M H σ env) (n : NewL K H0 M H σ env p vs ds) : SRel K M0 H0 M H (σ.set i (some (.ref p))) (env.set i (some (.own ds))) where
  len := by rw [List.length_set, List.length_set, s.len]
  st := s.st
  data := fun j y h => by
    by_cases hj : i = j
    · subst hj
      by_cases hl : i < env.length
      · rw [List.getElem?_set_self hl] at h
        cases h
      · rw [List.getElem?_eq_none (by rw [List.length_set]; omega)] at h
        cases h
    · rw [List.getElem?_set_ne hj] at h
      obtain ⟨u, h1, h2⟩ := s.data j y h
      exact ⟨u, by rw [List.getElem?_set_ne hj]; exact h1, h2⟩
  own := fun j xs h => by
    by_cases hj : i = j
    · subst hj
      by_cases hl : i < env.length
      · rw [List.getElem?_set_self hl] at h
        cases h
        exact ⟨p, vs, List.getElem?_set_self (by rw [s.len]; exact hl), n.m, n.h0, n.h, n.r⟩
      · rw [List.getElem?_eq_none (by rw [List.length_set]; omega)] at h
        cases h
    · rw [List.getElem?_set_ne hj] at h
      obtain ⟨a, vs, h1, h2⟩ := s.own j xs h
      exact ⟨a, vs, by rw [List.getElem?_set_ne hj]; exact h1, h2⟩
  dist := fun j k xs ys a h1 h2 h3 h4 => by
    have out : ∀ (j : Nat) (o : Option Sv) (xs : List D), i = j → (env.set i o)[j]? = some (some (.own xs)) → i < env.length := fun j o xs e h => by
      subst e
      by_cases hl : i < env.length
      · exact hl
      · rw [List.getElem?_eq_none (by rw [List.length_set]; omega)] at h
        cases h
    by_cases hj : i = j
    · by_cases hk : i = k
      · rw [← hj, ← hk]
      · have hl := out j _ _ hj h1
        subst hj
        rw [List.getElem?_set_self (by rw [s.len]; exact hl)] at h3
        cases h3
        rw [List.getElem?_set_ne hk] at h2 h4
        exact absurd h4 (n.far k ys h2)
    · by_cases hk : i = k
      · have hl := out k _ _ hk h2
        subst hk
        rw [List.getElem?_set_self (by rw [s.len]; exact hl)] at h4
        cases h4
        rw [List.getElem?_set_ne hj] at h1 h3
        exact absurd h3 (n.far j xs h1)
      · rw [List.getElem?_set_ne hj] at h1 h3
        rw [List.getElem?_set_ne hk] at h2 h4
        exact s.dist j k xs ys a h1 h2 h3 h4
  ownk := fun j ks h => by
    have hj : i ≠ j := fun e => by
      subst e
      by_cases hl : i < env.length
      · rw [List.getElem?_set_self hl] at h
        cases h
      · rw [List.getElem?_eq_none (by rw [List.length_set]; omega)] at h
        cases h
    rw [List.getElem?_set_ne hj] at h
    obtain ⟨a, h1, h2⟩ := s.ownk j ks h
    exact ⟨a, by rw [List.getElem?_set_ne hj]; exact h1, h2⟩
  distk := fun j k xs ys a h1 h2 h3 h4 => by
    have ne : ∀ (j : Nat) (xs : List (Key × D)), (env.set i (some (Sv.own ds)))[j]? = some (some (.ownK xs)) → i ≠ j := fun j xs h e => by
      subst e
      by_cases hl : i < env.length
      · rw [List.getElem?_set_self hl] at h
        cases h
      · rw [List.getElem?_eq_none (by rw [List.length_set]; omega)] at h
        cases h
    have n1 := ne j xs h1
    have n2 := ne k ys h2
    rw [List.getElem?_set_ne n1] at h1 h3
    rw [List.getElem?_set_ne n2] at h2 h4
    exact s.distk j k xs ys a h1 h2 h3 h4
/-- a new dict -/
theorem SRel.putOwnK {i : Nat} {p : Addr} {ks : List (Key × D)} (s : SRel K M0 H0 M H σ env) (h0 : H0 p = none) (hm : M p = none) (hh : H p = some (.dK (dV ks))) (ha : (ks.all fun p => atD p.2) = true) (far : ∀ (i : Nat) (ls : List (Key × D)), env[i]? = some (some (.ownK ls)) → σ[i]? ≠ some (some (.ref p))) :
    SRel K M0 H0 M H (σ.set i (some (.ref p))) (env.set i (some (.ownK ks))) where
  len := by rw [List.length_set, List.length_set, s.len]
  st := s.st
  data := fun j y h => by
    by_cases hj : i = j
    · subst hj
      by_cases hl : i < env.length
      · rw [List.getElem?_set_self hl] at h
        cases h
      · rw [List.getElem?_eq_none (by rw [List.length_set]; omega)] at h
        cases h
    · rw [List.getElem?_set_ne hj] at h
      obtain ⟨u, h1, h2⟩ := s.data j y h
      exact ⟨u, by rw [List.getElem?_set_ne hj]; exact h1, h2⟩
  own := fun j xs h => by
    have hj : i ≠ j := fun e => by
      subst e
      by_cases hl : i < env.length
      · rw [List.getElem?_set_self hl] at h
        cases h
      · rw [List.getElem?_eq_none (by rw [List.length_set]; omega)] at h
        cases h
    rw [List.getElem?_set_ne hj] at h
    obtain ⟨a, vs, h1, h2⟩ := s.own j xs h
    exact ⟨a, vs, by rw [List.getElem?_set_ne hj]; exact h1, h2⟩
  dist := fun j k xs ys a h1 h2 h3 h4 => by
    have ne : ∀ (j : Nat) (xs : List D), (env.set i (some (Sv.ownK ks)))[j]? = some (some (.own xs)) → i ≠ j := fun j xs h e => by
      subst e
      by_cases hl : i < env.length
      · rw [List.getElem?_set_self hl] at h
        cases h
      · rw [List.getElem?_eq_none (by rw [List.length_set]; omega)] at h
        cases h
    have n1 := ne j xs h1
    have n2 := ne k ys h2
    rw [List.getElem?_set_ne n1] at h1 h3
    rw [List.getElem?_set_ne n2] at h2 h4
    exact s.dist j k xs ys a h1 h2 h3 h4
  ownk := fun j ls h => by
    by_cases hj : i = j
    · subst hj
      by_cases hl : i < env.length
      · rw [List.getElem?_set_self hl] at h
        cases h
        exact ⟨p, List.getElem?_set_self (by rw [s.len]; exact hl), hm, h0, hh, ha⟩
      · rw [List.getElem?_eq_none (by rw [List.length_set]; omega)] at h
        cases h
    · rw [List.getElem?_set_ne hj] at h
      obtain ⟨a, h1, h2⟩ := s.ownk j ls h
      exact ⟨a, by rw [List.getElem?_set_ne hj]; exact h1, h2⟩
  distk := fun j k xs ys a h1 h2 h3 h4 => by
    have out : ∀ (j : Nat) (o : Option Sv) (xs : List (Key × D)), i = j → (env.set i o)[j]? = some (some (.ownK xs)) → i < env.length := fun j o xs e h => by
      subst e
      by_cases hl : i < env.length
      · exact hl
      · rw [List.getElem?_eq_none (by rw [List.length_set]; omega)] at h
        cases h
    by_cases hj : i = j
    · by_cases hk : i = k
      · rw [← hj, ← hk]
      · have hl := out j _ _ hj h1
        subst hj
        rw [List.getElem?_set_self (by rw [s.len]; exact hl)] at h3
        cases h3
        rw [List.getElem?_set_ne hk] at h2 h4
        exact absurd h4 (far k ys h2)
    · by_cases hk : i = k
      · have hl := out k _ _ hk h2
        subst hk
        rw [List.getElem?_set_self (by rw [s.len]; exact hl)] at h4
        cases h4
        rw [List.getElem?_set_ne hj] at h1 h3
        exact absurd h3 (far j xs h1)
      · rw [List.getElem?_set_ne hj] at h1 h3
        rw [List.getElem?_set_ne hk] at h2 h4
        exact s.distk j k xs ys a h1 h2 h3 h4
def setSv (env : SE) : List Nat → List D → SE
  | i :: is, d :: ds => setSv (env.set i (some (.d d))) is ds
  | _, _ => env
theorem SRel.putAll : ∀ {is : List Nat} {vs : List V} {ds : List D} {σ : L2.St} {env : SE}, SRel K M0 H0 M H σ env → RpA K M vs ds → SRel K M0 H0 M H (setAll σ is vs) (setSv env is ds)
  | [], _, _, _, _, s, _ => by
    unfold setAll setSv
    exact s
  | i :: is, _, _, σ, env, s, .nil_ => by
    unfold setAll setSv
    exact s
  | i :: is, v :: vs, d :: ds, σ, env, s, .cons_ r t => by
    show SRel K M0 H0 M H (setAll (σ.set i (some v)) is vs) (setSv (env.set i (some (.d d))) is ds)
    exact SRel.putAll (s.put r) t
/-- a list that is one's own has changed -/
theorem SRel.turn {i : Nat} {a : Addr} {xs ys : List D} {ws : List V} (s : SRel K M0 H0 M H σ env) (hi : env[i]? = some (some (.own xs))) (ha : σ[i]? = some (some (.ref a))) (r : RpA K M ws ys) :
    SRel K M0 H0 M (upd H a (.lst ws)) σ (env.set i (some (.own ys))) := by
  obtain ⟨b, vs, e1, e2, e3, e4, _⟩ := s.own i xs hi
  rw [ha] at e1
  cases e1
  have il : i < env.length := (List.getElem?_eq_some_iff.mp hi).1
  have neM : ∀ c o, M c = some o → c ≠ a := fun c o h z => by rw [z, e2] at h; cases h
  have neH : ∀ c o, H0 c = some o → c ≠ a := fun c o h z => by rw [z, e3] at h; cases h
  have notK : ∀ (j : Nat) (ls : List (Key × D)), (env.set i (some (Sv.own ys)))[j]? = some (some (.ownK ls)) → i ≠ j ∧ env[j]? = some (some (.ownK ls)) := fun j ls h => by
    by_cases hj : i = j
    · subst hj
      rw [List.getElem?_set_self il] at h
      cases h
    · rw [List.getElem?_set_ne hj] at h
      exact ⟨hj, h⟩
  refine ⟨by rw [List.length_set, s.len], ⟨s.st.m, fun c o h => ?_, fun c o h => ?_, s.st.nw⟩, fun j x h => ?_, fun j zs h => ?_, fun j k zs ws' c h1 h2 h3 h4 => ?_, fun j ls h => ?_, fun j k zs ws' c h1 h2 h3 h4 => s.distk j k zs ws' c (notK j zs h1).2 (notK k ws' h2).2 h3 h4⟩
  · rw [upd_ne (neH c o h)]
    exact s.st.h c o h
  · rw [upd_ne (neM c o h)]
    exact s.st.mh c o h
  · by_cases hj : i = j
    · subst hj
      rw [List.getElem?_set_self il] at h
      cases h
    · rw [List.getElem?_set_ne hj] at h
      exact s.data j x h
  · by_cases hj : i = j
    · subst hj
      rw [List.getElem?_set_self il] at h
      cases h
      exact ⟨a, ws, ha, e2, e3, upd_same, r⟩
    · rw [List.getElem?_set_ne hj] at h
      obtain ⟨c, us, f1, f2, f3, f4, f5⟩ := s.own j zs h
      have hne : c ≠ a := fun z => hj (s.dist i j xs zs a hi h ha (by rw [f1, z]))
      exact ⟨c, us, f1, f2, f3, by rw [upd_ne hne]; exact f4, f5⟩
  · have own' : ∀ (j : Nat) (zs : List D), (env.set i (some (Sv.own ys)))[j]? = some (some (.own zs)) → ∃ zs', env[j]? = some (some (.own zs')) := fun j zs h => by
      by_cases hj : i = j
      · subst hj
        exact ⟨xs, hi⟩
      · rw [List.getElem?_set_ne hj] at h
        exact ⟨zs, h⟩
    obtain ⟨z1, g1⟩ := own' j zs h1
    obtain ⟨z2, g2⟩ := own' k ws' h2
    exact s.dist j k z1 z2 c g1 g2 h3 h4
  · obtain ⟨c, f1, f2, f3, f4, f5⟩ := s.ownk j ls (notK j ls h).2
    have hne : c ≠ a := fun z => by rw [z, e4] at f4; cases f4
    exact ⟨c, f1, f2, f3, by rw [upd_ne hne]; exact f4, f5⟩
/-- a dict that is one's own has changed -/
theorem SRel.turnK {i : Nat} {a : Addr} {ks ls : List (Key × D)} (s : SRel K M0 H0 M H σ env) (hi : env[i]? = some (some (.ownK ks))) (ha : σ[i]? = some (some (.ref a))) (hl : (ls.all fun p => atD p.2) = true) :
    SRel K M0 H0 M (upd H a (.dK (dV ls))) σ (env.set i (some (.ownK ls))) := by
  obtain ⟨b, e1, e2, e3, e4, _⟩ := s.ownk i ks hi
  rw [ha] at e1
  cases e1
  have il : i < env.length := (List.getElem?_eq_some_iff.mp hi).1
  have neM : ∀ c o, M c = some o → c ≠ a := fun c o h z => by rw [z, e2] at h; cases h
  have neH : ∀ c o, H0 c = some o → c ≠ a := fun c o h z => by rw [z, e3] at h; cases h
  have notO : ∀ (j : Nat) (xs : List D), (env.set i (some (Sv.ownK ls)))[j]? = some (some (.own xs)) → i ≠ j ∧ env[j]? = some (some (.own xs)) := fun j xs h => by
    by_cases hj : i = j
    · subst hj
      rw [List.getElem?_set_self il] at h
      cases h
    · rw [List.getElem?_set_ne hj] at h
      exact ⟨hj, h⟩
  have ownk' : ∀ (j : Nat) (zs : List (Key × D)), (env.set i (some (Sv.ownK ls)))[j]? = some (some (.ownK zs)) → ∃ zs', env[j]? = some (some (.ownK zs')) := fun j zs h => by
    by_cases hj : i = j
    · subst hj
      exact ⟨ks, hi⟩
    · rw [List.getElem?_set_ne hj] at h
      exact ⟨zs, h⟩
  refine ⟨by rw [List.length_set, s.len], ⟨s.st.m, fun c o h => ?_, fun c o h => ?_, s.st.nw⟩, fun j x h => ?_, fun j zs h => ?_, fun j k zs ws c h1 h2 h3 h4 => s.dist j k zs ws c (notO j zs h1).2 (notO k ws h2).2 h3 h4, fun j zs h => ?_, fun j k zs ws c h1 h2 h3 h4 => ?_⟩
  · rw [upd_ne (neH c o h)]
    exact s.st.h c o h
  · rw [upd_ne (neM c o h)]
    exact s.st.mh c o h
  · by_cases hj : i = j
    · subst hj
      rw [List.getElem?_set_self il] at h
      cases h
    · rw [List.getElem?_set_ne hj] at h
      exact s.data j x h
  · obtain ⟨c, us, f1, f2, f3, f4, f5⟩ := s.own j zs (notO j zs h).2
    have hne : c ≠ a := fun z => by rw [z, e4] at f4; cases f4
    exact ⟨c, us, f1, f2, f3, by rw [upd_ne hne]; exact f4, f5⟩
  · by_cases hj : i = j
    · subst hj
      rw [List.getElem?_set_self il] at h
      cases h
      exact ⟨a, ha, e2, e3, upd_same, hl⟩
    · rw [List.getElem?_set_ne hj] at h
      obtain ⟨c, f1, f2, f3, f4, f5⟩ := s.ownk j zs h
      have hne : c ≠ a := fun z => hj (s.distk i j ks zs a hi h ha (by rw [f1, z]))
      exact ⟨c, f1, f2, f3, by rw [upd_ne hne]; exact f4, f5⟩
  · obtain ⟨z1, g1⟩ := ownk' j zs h1
    obtain ⟨z2, g2⟩ := ownk' k ws h2
    exact s.distk j k z1 z2 c g1 g2 h3 h4
end
end PU
set_option backward.match.sparseCases false
namespace PU
open PySem PySem.Spec PyProof.Rows L2

inductive Fl | nx (env : SE) | ret (d : D) (fr : Bool) | brk (env : SE) | ct (env : SE)
def RetIs (K : PySem.W.Frag) (M0 H0 M H : Hp) (v : V) (d : D) (fr : Bool) : Prop := Stp M0 H0 M H ∧
  (if fr then ∃ ds p vs, d = .list ds ∧ v = .ref p ∧ H0 p = none ∧ M p = none ∧ H p = some (.lst vs) ∧ RpA K M vs ds else Rp K M v d)
def EndOk (K : PySem.W.Frag) (M0 H0 : Hp) (r : Fl) (E : Ends) : Prop := match r with
  | .nx env => ∀ M H σ, SRel K M0 H0 M H σ env → E.nx σ H
  | .brk env => ∀ M H σ, SRel K M0 H0 M H σ env → E.bk σ H
  | .ct env => ∀ M H σ, SRel K M0 H0 M H σ env → E.ct σ H
  | .ret d fr => ∀ M H v, RetIs K M0 H0 M H v d fr → E.rt v H
def SOK (X : Cx) (st : Stmt) (env : SE) (r : Fl) : Prop := ∀ M0 H0 M H σ E, SRel X.K M0 H0 M H σ env → EndOk X.K M0 H0 r E → WS X st E σ H
def SsOK (X : Cx) (sts : List Stmt) (env : SE) (r : Fl) : Prop := ∀ M0 H0 M H σ E, SRel X.K M0 H0 M H σ env → EndOk X.K M0 H0 r E → WSs X sts E σ H
section
variable {X : Cx} {env : SE} {pos p : Pos} {e c : Expr} {d : D} {r : Fl} {st : Stmt} {sts rest : List Stmt}
theorem ss_nil : SsOK X [] env (.nx env) := fun M0 H0 M H σ E s k => ⟨_, pss_nil, k M H σ s⟩
theorem ss_go {env1 : SE} (h : SOK X st env (.nx env1)) (t : SsOK X rest env1 r) : SsOK X (st :: rest) env r := fun M0 H0 M H σ E s k =>
  ⟨_, pss_cons ps_w pss_w, h M0 H0 M H σ _ s fun M1 H1 σ1 s1 => t M0 H0 M1 H1 σ1 E s1 k⟩
theorem ss_ret {fr : Bool} (h : SOK X st env (.ret d fr)) : SsOK X (st :: rest) env (.ret d fr) := fun M0 H0 M H σ E s k => ⟨_, pss_cons ps_w pss_w, h M0 H0 M H σ _ s k⟩
theorem ss_brk {env1 : SE} (h : SOK X st env (.brk env1)) : SsOK X (st :: rest) env (.brk env1) := fun M0 H0 M H σ E s k => ⟨_, pss_cons ps_w pss_w, h M0 H0 M H σ _ s k⟩
theorem ss_ct {env1 : SE} (h : SOK X st env (.ct env1)) : SsOK X (st :: rest) env (.ct env1) := fun M0 H0 M H σ E s k => ⟨_, pss_cons ps_w pss_w, h M0 H0 M H σ _ s k⟩
theorem s_pass : SOK X (.Pass pos) env (.nx env) := fun M0 H0 M H σ E s k => ⟨_, ps_pass, k M H σ s⟩
theorem s_brk : SOK X (.Break pos) env (.brk env) := fun M0 H0 M H σ E s k => ⟨_, ps_break, k M H σ s⟩
theorem s_ct : SOK X (.Continue pos) env (.ct env) := fun M0 H0 M H σ E s k => ⟨_, ps_continue, k M H σ s⟩
theorem s_doc {x : Str} {j : Nat} {pos' : Pos} : SOK X (.Expr (.Constant (.str x) j pos) pos') env (.nx env) := fun M0 H0 M H σ E s k => ⟨_, ps_doc, k M H σ s⟩
theorem s_retN : SOK X (.Return none pos) env (.ret .none false) := fun M0 H0 M H σ E s k => ⟨_, ps_retN, k M H .non ⟨s.st, .none_⟩⟩
theorem s_ret (h : EV X e (thawS env) d) : SOK X (.Return (some e) pos) env (.ret d false) := fun M0 H0 M H σ E s k =>
  ⟨_, ps_ret pe_w, s.eval h fun v M1 H1 s1 _ rp => k M1 H1 v ⟨s1.st, rp⟩⟩
theorem s_retF {ds : List D} (h : EVM X e (thawS env) (.list ds)) : SOK X (.Return (some e) pos) env (.ret (.list ds) true) := fun M0 H0 M H σ E s k =>
  ⟨_, ps_ret pe_w, s.evalF h fun p vs M1 H1 s1 _ n => k M1 H1 (.ref p) ⟨s1.st, ds, p, vs, rfl, rfl, n.h0, n.m, n.h, n.r⟩⟩
theorem s_retOwn {i : Nat} {n : Str} {ds : List D} (hN : X.N[i]? = some n) (hv : Vis X.env.scope n) (h1 : (n == ("__debug__" : Str)) = false) (h2 : (n == ("__classdict__" : Str)) = false) (h : env[i]? = some (some (.own ds))) :
    SOK X (.Return (some (.Name n p)) pos) env (.ret (.list ds) true) := fun M0 H0 M H σ E s k => by
  obtain ⟨a, vs, e1, e2, e3, e4, e5⟩ := s.own i ds h
  exact ⟨_, ps_ret (pe_var hN hv h1 h2), .ref a, e1, k M H (.ref a) ⟨s.st, ds, a, vs, rfl, rfl, e3, e2, e4, e5⟩⟩
theorem s_drop (h : EV X e (thawS env) d) (hs : swapsWith e none pos.line X.env = pure false) : SOK X (.Expr e pos) env (.nx (aft (flat d) env)) := fun M0 H0 M H σ E s k =>
  ⟨_, ps_expr pe_w hs, s.eval h fun v M1 H1 s1 _ rp => k M1 H1 σ s1⟩
theorem s_asg {i : Nat} {n : Str} (hN : X.N.Nodup) (hi : X.N[i]? = some n) (hl : Loc X.env.scope n) (hf : X.fn n = true ∨ X.env.scope.names.lookup n = some .local) (hs : swapsWith e (some (.Name n p)) pos.line X.env = pure false) (h : EV X e (thawS env) d) :
    SOK X (.Assign [.Name n p] e pos) env (.nx ((aft (flat d) env).set i (some (.d d)))) := fun M0 H0 M H σ E s k =>
  ⟨_, ps_set hN hi hl pe_w hs hf, s.eval h fun v M1 H1 s1 _ rp => k M1 H1 _ (s1.put rp)⟩
theorem s_asgF {i : Nat} {n : Str} {ds : List D} (hN : X.N.Nodup) (hi : X.N[i]? = some n) (hl : Loc X.env.scope n) (hf : X.fn n = true ∨ X.env.scope.names.lookup n = some .local) (hs : swapsWith e (some (.Name n p)) pos.line X.env = pure false)
    (h : EVM X e (thawS env) (.list ds)) : SOK X (.Assign [.Name n p] e pos) env (.nx ((aft (flats ds) env).set i (some (.own ds)))) := fun M0 H0 M H σ E s k =>
  ⟨_, ps_set hN hi hl pe_w hs hf, s.evalF h fun q vs M1 H1 s1 _ nl => k M1 H1 _ (s1.putOwn nl)⟩
/-- name = [.. for ..] -/
theorem s_asgLc {i : Nat} {n : Str} {scope : Scope} {tg iter elt : Expr} {ifs : List Expr} {tgt : Tgt} {own : List (Str × Nat)} {xs ys : List D} {f : D → Option (Option D)} {lpos : Pos} (hc : X.calm = true) (hN : X.N.Nodup) (hi : X.N[i]? = some n)
    (hl : X.env.scope.names.lookup n = some .local) (hsw : swapsWith (.ListComp elt [⟨tg, iter, ifs, 0⟩] scope lpos) (some (.Name n p)) pos.line X.env = pure true) (ok : BlkOk X.N X.env.scope scope own) (hset : ∀ es k p, iter ≠ .Set es k p)
    (hit : EVI X tg iter (thawS env) xs) (htg : ∀ B : Blk X scope, TgOk B.cx tg tgt) (hown : ∀ i ∈ tgt.ix, i ∈ own.map (·.2)) (hlen : xs.length ≤ lim) (hf : ∀ x ∈ xs, ∀ r, f x = some r → TurnIs X scope ifs elt (wipeD (thawS env) (own.map (·.2))) tgt x r)
    (hr : lcD f xs = some ys) : SOK X (.Assign [.Name n p] (.ListComp elt [⟨tg, iter, ifs, 0⟩] scope lpos) pos) env (.nx ((aft (flats ys) env).set i (some (.own ys)))) := fun M0 H0 M H σ E s k => by
  refine ⟨_, ps_setLc hc hN hi hl hsw pi_w ok (fun s H C cl fp => bG_ok ⟨s, H, C, cl, fp⟩) (fun s H C cl fp => bT_ok ⟨s, H, C, cl, fp⟩) (fun s H C cl fp => bE_ok ⟨s, H, C, cl, fp⟩) (noSet_fold hset), ?_⟩
  refine run_lc hit htg hown hlen hf hr s.sl s.froz_up fun q vs M1 H1 hp mp st hv rp => ?_
  have h0 : H0 q = none := s.st.h.free hp
  have far : ¬ ownAt σ env q := fun w => by
    obtain ⟨_, _, us, e, _⟩ := s.at_own w
    rw [hp] at e
    cases e
  cases hfl : flats ys with
  | true =>
    rw [hfl] at k
    refine k _ H1 _ ((s.after st).putOwn ⟨h0, ?_, hv, dpa_less (s.own_lst st) ys vs hfl rp, fun i xs h1 h2 => far (.inl ⟨i, xs, h1, h2⟩)⟩)
    rw [lessOf_out far]
    exact mp
  | false =>
    rw [hfl] at k
    exact k M1 H1 _ ((s.freeze st).putOwn ⟨h0, mp, hv, rp, fun i xs h1 _ => noFrz h1⟩)
/-- a target that takes apart -/
theorem s_asgT {tg : Expr} {tgt : Tgt} {ds : List D} (ht : TgOk X tg tgt) (h1 : swapsWithSole [tg] e pos.line X.env = pure false) (h2 : swappedStores [tg] e X.env = pure none) (h3 : (assignEach [tg] X.env).map (·.2) = [assign tg X.env])
    (h : EV X e (thawS env) d) (hv : tgt.vals d = some ds) : SOK X (.Assign [tg] e pos) env (.nx (setSv (aft (flat d) env) tgt.ix ds)) := fun M0 H0 M H σ E s k =>
  ⟨_, ps_asg pe_w pg_w h1 h2 h3, s.eval h fun v M1 H1 s1 _ rp => ht M1 H1 σ v d ds _ s1.st.mh rp hv fun vs ra => k M1 H1 _ (s1.putAll ra)⟩
theorem SRel.step {K : PySem.W.Frag} {M0 H0 M H M1 H1 : Hp} {σ : L2.St} (s : SRel K M0 H0 M H σ env) (st : Stp M H M1 H1) : SRel K M0 H0 M1 H1 σ env where
  len := s.len
  st := s.st.trans st
  data := fun i x h => let ⟨v, e, r⟩ := s.data i x h; ⟨v, e, dp_mono st.m _ _ r⟩
  own := fun i xs h => let ⟨a, vs, e1, e2, e3, e4, r⟩ := s.own i xs h; ⟨a, vs, e1, st.nw a _ e4 e2, e3, st.h a _ e4, dpa_mono st.m _ _ r⟩
  dist := s.dist
  ownk := fun i ks h => let ⟨a, e1, e2, e3, e4, r⟩ := s.ownk i ks h; ⟨a, e1, st.nw a _ e4 e2, e3, st.h a _ e4, r⟩
  distk := s.distk
/-- a, b, *c = e: the rest is a list of its own -/
def StarOk (X : Cx) : List Expr → List Nat → Nat → Prop
  | [], _, _ => False
  | .Starred e _ :: r, is, j => r = [] ∧ is = [] ∧ NameOk X e j
  | _ :: _, [], _ => False
  | e :: es, i :: is, j => NameOk X e i ∧ StarOk X es is j
theorem starOk_cons {X : Cx} {e : Expr} {es : List Expr} {is : List Nat} {j : Nat} (hs : ∀ e0 p, e ≠ .Starred e0 p) (h : StarOk X (e :: es) is j) : ∃ i is', is = i :: is' ∧ NameOk X e i ∧ StarOk X es is' j := by
  cases is with
  | nil => cases e <;> first | exact absurd rfl (hs _ _) | exact (show False from h).elim
  | cons i is' => cases e <;> first | exact absurd rfl (hs _ _) | exact ⟨i, is', rfl, h⟩
theorem starOk_mk {X : Cx} {e : Expr} {es : List Expr} {i : Nat} {is : List Nat} {j : Nat} (hs : ∀ e0 p, e ≠ .Starred e0 p) (h : NameOk X e i) (h2 : StarOk X es is j) : StarOk X (e :: es) (i :: is) j := by
  cases e <;> first | exact absurd rfl (hs _ _) | exact ⟨h, h2⟩
def unstar : List Expr → List Expr
  | [] => []
  | .Starred e _ :: r => e :: unstar r
  | e :: r => e :: unstar r
theorem star_ok : ∀ {es : List Expr} {is : List Nat} {j : Nat}, StarOk X es is j → NamesOk X (unstar es) (is ++ [j]) ∧ (assignEach es X.env).length = is.length + 1 ∧ (assignEach es X.env).findIdx? (·.1) = some is.length ∧ (assignEach es X.env).map (·.2) = (assignEach (unstar es) X.env).map (·.2)
  | [], _, _, h => (show False from h).elim
  | e :: es, is, j, h => by
    by_cases hs : ∃ e0 p, e = .Starred e0 p
    · obtain ⟨e0, p, rfl⟩ := hs
      obtain ⟨rfl, rfl, n, p, rfl, h2⟩ := (show es = [] ∧ is = [] ∧ NameOk X e0 j from h)
      exact ⟨⟨⟨n, p, rfl, h2⟩, trivial⟩, rfl, rfl, rfl⟩
    · obtain ⟨i, is', rfl, ⟨n, p, rfl, h1⟩, h2⟩ := starOk_cons (fun e0 p z => hs ⟨e0, p, z⟩) h
      obtain ⟨a1, a2, a3, a4⟩ := star_ok h2
      refine ⟨⟨⟨n, p, rfl, h1⟩, a1⟩, ?_, ?_, ?_⟩
      · show (assignEach es X.env).length + 1 = is'.length + 1 + 1
        rw [a2]
      · show List.findIdx? (·.1) ((false, _) :: assignEach es X.env) = _
        rw [List.findIdx?_cons, a3]
        rfl
      · show assign (.Name n p) X.env :: (assignEach es X.env).map (·.2) = assign (.Name n p) X.env :: (assignEach (unstar es) X.env).map (·.2)
        rw [a4]
theorem setAll_app {j : Nat} {v : V} : ∀ {is : List Nat} {vs : List V} {σ : L2.St}, vs.length = is.length → setAll σ (is ++ [j]) (vs ++ [v]) = (setAll σ is vs).set j (some v)
  | [], [], σ, _ => by
    show setAll σ [j] [v] = (setAll σ [] []).set j (some v)
    unfold setAll
    unfold setAll
    rfl
  | [], _ :: _, _, h => by cases h
  | _ :: _, [], _, h => by cases h
  | i :: is, u :: vs, σ, h => by
    show setAll (σ.set i (some u)) (is ++ [j]) (vs ++ [v]) = (setAll (σ.set i (some u)) is vs).set j (some v)
    exact setAll_app (Nat.succ.inj h)
theorem s_asgStar {es : List Expr} {k : Nat} {q : Pos} {is : List Nat} {j : Nat} {ds : List D} (hc : X.calm = true) (hN : X.N.Nodup) (ht : StarOk X es is j) (h1 : swapsWithSole [.Tuple es k q] e pos.line X.env = pure false) (h2 : swappedStores [.Tuple es k q] e X.env = pure none)
    (h : EV X e (thawS env) d) (hd : seqD d = some ds) (hn : is.length ≤ ds.length) (hz : ds.length ≤ lim) : SOK X (.Assign [.Tuple es k q] e pos) env (.nx ((setSv (aft (flat d) env) is (ds.take is.length)).set j (some (.own (ds.drop is.length))))) := fun M0 H0 M H σ E s k => by
  obtain ⟨a1, a2, a3, a4⟩ := star_ok ht
  obtain ⟨b1, _, _⟩ := pgs_sets hN a1
  refine ⟨_, ps_asg pe_w pg_w h1 h2 rfl, s.eval h fun v M1 H1 s1 _ rp => ?_⟩
  obtain ⟨u, a, vs, rfl, hq, ra⟩ := seqD_of s1.st.mh rp hd
  have hl := rpa_len ra
  refine ⟨_, pg_star hc b1 a2 a3 a4, u, a, vs, rfl, sqB_mono s1.st.mh hq, by rw [hl]; exact hn, by rw [hl]; exact Nat.le_trans hz lim_line, fun p hp => ?_⟩
  have e1 : (vs.take is.length).length = is.length := by rw [List.length_take, hl]; omega
  refine sets_run (by rw [List.length_append, List.length_append, e1]; rfl) ?_
  rw [setAll_app e1]
  have s2 := s1.putAll (is := is) (dpa_take is.length ra)
  have s3 := s2.step (Stp.mine (o := .lst (vs.drop is.length)) s1.st.mh hp)
  refine k M1 _ _ (s3.putOwn ⟨s1.st.h.free hp, s1.st.mh.free hp, upd_same, dpa_drop is.length ra, fun i xs h1 h2 => ?_⟩)
  obtain ⟨b, ws, f1, _, _, f4, _⟩ := s2.own i xs h1
  rw [h2] at f1
  cases f1
  rw [hp] at f4
  cases f4
theorem s_aug {i : Nat} {n : Str} {o : Operator} {a b : Int} {f : Int → Int → Int} (hp : PIp X o (ipI f)) (hN : X.N.Nodup) (hi : X.N[i]? = some n) (hl : Loc X.env.scope n) (hf : X.fn n = true ∨ X.env.scope.names.lookup n = some .local)
    (ha : env[i]? = some (some (.d (.int a)))) (h : EV X e (thawS env) (.int b)) : SOK X (.AugAssign (.Name n p) o e pos) env (.nx (env.set i (some (.d (.int (f a b)))))) := fun M0 H0 M H σ E s k => by
  obtain ⟨v, e1, r1⟩ := s.data i _ ha
  cases r1
  refine ⟨_, ps_aug hN hi hl pe_w hp hf, .int a, e1, s.eval h fun v M1 H1 s1 _ rp => ?_⟩
  cases rp
  exact ⟨a, b, rfl, rfl, k M1 H1 _ (s1.put (.int_ _))⟩
theorem s_if {t : Bool} {a b : List Stmt} (h : EVT X c (thawS env) t) (k : SsOK X (if t then a else b) env r) : SOK X (.If c a b pos) env r := fun M0 H0 M H σ E s q =>
  ⟨_, ps_if pt_w pss_w pss_w, s.test h fun M1 H1 s1 _ => by
    cases t with
    | true => exact k M0 H0 M1 H1 σ E s1 q
    | false => exact k M0 H0 M1 H1 σ E s1 q⟩
theorem s_append {i : Nat} {n : Str} {xs : List D} {ap cp : Pos} (hN : X.N[i]? = some n) (hv : Vis X.env.scope n) (h1 : (n == ("__debug__" : Str)) = false) (h2 : (n == ("__classdict__" : Str)) = false) (hb : attributeBase (.Name n p) "append" X.env (eval (.Name n p) X.env) = eval (.Name n p) X.env)
    (hl : (ap.endLine == cp.line) = true) (hst : noStar e = true) (hi : env[i]? = some (some (.own xs))) (h : EV X e (thawS env) d) (hf : flat d = true) (hx : xs.length < lim) :
    SOK X (.Expr (.Call (.Attribute (.Name n p) "append" ap) [e] [] cp) pos) env (.nx (env.set i (some (.own (xs ++ [d]))))) := fun M0 H0 M H σ E s k => by
  obtain ⟨a, vs, e1, e2, e3, e4, e5⟩ := s.own i xs hi
  refine ⟨_, ps_expr (pe_bm PySem.F.plainAttrs_list PySem.F.slot_list_append PySem.F.type_list_append mt_append (pe_var hN hv h1 h2) (pa_cons pe_w pa_nil (star_cons hst)) hb (by rw [star_cons hst]; rfl) hl (star_cons hst) rfl), .ref a, e1, .inl ⟨rfl, vs, .inl (.inl e4)⟩, ?_⟩
  refine s.eval h fun v M1 H1 s1 sm rp => ?_
  rw [hf] at s1
  obtain ⟨b, ws, f1, f2, f3, f4, f5⟩ := s1.own i xs hi
  rw [e1] at f1
  cases f1
  refine ⟨a, ws, v, rfl, rfl, f4, ?_, k M1 _ σ (s1.turn hi e1 (dpa_app f5 (.cons_ rp .nil_)))⟩
  rw [rpa_len f5]
  exact Nat.lt_of_lt_of_le hx lim_line
theorem s_extend {i : Nat} {n : Str} {xs ys : List D} {ap cp : Pos} (hN : X.N[i]? = some n) (hv : Vis X.env.scope n) (h1 : (n == ("__debug__" : Str)) = false) (h2 : (n == ("__classdict__" : Str)) = false) (hb : attributeBase (.Name n p) "extend" X.env (eval (.Name n p) X.env) = eval (.Name n p) X.env)
    (hl : (ap.endLine == cp.line) = true) (hst : noStar e = true) (hi : env[i]? = some (some (.own xs))) (h : EVM X e (thawS env) (.list ys)) (hf : flats ys = true) (hx : xs.length + ys.length ≤ lim) :
    SOK X (.Expr (.Call (.Attribute (.Name n p) "extend" ap) [e] [] cp) pos) env (.nx (env.set i (some (.own (xs ++ ys))))) := fun M0 H0 M H σ E s k => by
  obtain ⟨a, vs, e1, e2, e3, e4, e5⟩ := s.own i xs hi
  refine ⟨_, ps_expr (pe_bm PySem.F.plainAttrs_list PySem.F.slot_list_extend PySem.F.type_list_extend mt_extend (pe_var hN hv h1 h2) (pa_cons pe_w pa_nil (star_cons hst)) hb (by rw [star_cons hst]; rfl) hl (star_cons hst) rfl), .ref a, e1, .inl ⟨rfl, vs, .inl (.inl e4)⟩, ?_⟩
  refine s.evalF h fun b us M1 H1 s1 sm nl => ?_
  rw [hf] at s1 nl
  obtain ⟨_, ws, f1, f2, f3, f4, f5⟩ := s1.own i xs hi
  rw [e1] at f1
  cases f1
  refine ⟨a, b, ws, us, rfl, rfl, f4, nl.h, ?_, k M1 _ σ (s1.turn hi e1 (dpa_app f5 nl.r))⟩
  rw [rpa_len f5, rpa_len nl.r]
  exact Nat.le_trans hx lim_line
theorem s_insert {i : Nat} {n : Str} {xs : List D} {ap cp : Pos} {e2 : Expr} {j : Int} (hN : X.N[i]? = some n) (hv : Vis X.env.scope n) (h1 : (n == ("__debug__" : Str)) = false) (h2 : (n == ("__classdict__" : Str)) = false) (hb : attributeBase (.Name n p) "insert" X.env (eval (.Name n p) X.env) = eval (.Name n p) X.env)
    (hl : (ap.endLine == cp.line) = true) (hst : noStar e = true) (hst2 : noStar e2 = true) (hi : env[i]? = some (some (.own xs))) (hj : EV X e (thawS env) (.int j)) (h : EV X e2 (thawS env) d) (hf : flat d = true) (hx : xs.length < lim) (hj0 : 0 ≤ j) (hj1 : j ≤ 1000000) :
    SOK X (.Expr (.Call (.Attribute (.Name n p) "insert" ap) [e, e2] [] cp) pos) env (.nx (env.set i (some (.own (xs.take j.toNat ++ [d] ++ xs.drop j.toNat))))) := fun M0 H0 M H σ E s k => by
  obtain ⟨a, vs, g1, g2, g3, g4, g5⟩ := s.own i xs hi
  have sc : starEach [e, e2] X.env = [(false, eval e X.env), (false, eval e2 X.env)] := by rw [star_cons hst, star_cons hst2]; rfl
  refine ⟨_, ps_expr (pe_bm PySem.F.plainAttrs_list PySem.F.slot_list_insert PySem.F.type_list_insert mt_insert (pe_var hN hv h1 h2) (pa_cons pe_w (pa_cons pe_w pa_nil (star_cons hst2)) (star_cons hst)) hb (by rw [sc]; rfl) hl (star_cons hst) (by rw [star_cons hst2]; rfl)), .ref a, g1, .inl ⟨rfl, vs, .inl (.inl g4)⟩, ?_⟩
  refine s.eval hj fun v M1 H1 s1 sm rp => ?_
  cases rp
  refine SRel.eval h s1 fun v M2 H2 s2 sm rp => ?_
  rw [hf] at s2
  obtain ⟨_, ws, f1, f2, f3, f4, f5⟩ := s2.own i xs hi
  rw [g1] at f1
  cases f1
  refine ⟨a, ws, j, v, rfl, rfl, f4, ?_, hj0, by omega, k M2 _ σ (s2.turn hi g1 (dpa_app (dpa_app (dpa_take _ f5) (.cons_ rp .nil_)) (dpa_drop _ f5)))⟩
  rw [rpa_len f5]
  exact Nat.lt_of_lt_of_le hx lim_line
theorem s_clear {i : Nat} {n : Str} {xs : List D} {ap cp : Pos} (hN : X.N[i]? = some n) (hv : Vis X.env.scope n) (h1 : (n == ("__debug__" : Str)) = false) (h2 : (n == ("__classdict__" : Str)) = false) (hb : attributeBase (.Name n p) "clear" X.env (eval (.Name n p) X.env) = eval (.Name n p) X.env)
    (hl : (ap.endLine == cp.line) = true) (hi : env[i]? = some (some (.own xs))) :
    SOK X (.Expr (.Call (.Attribute (.Name n p) "clear" ap) [] [] cp) pos) env (.nx (env.set i (some (.own [])))) := fun M0 H0 M H σ E s k => by
  obtain ⟨a, vs, e1, e2, e3, e4, e5⟩ := s.own i xs hi
  exact ⟨_, ps_expr (pe_bm0 PySem.F.plainAttrs_list PySem.F.slot_list_clear PySem.F.type_list_clear mt_clear (pe_var hN hv h1 h2) hb hl), .ref a, e1, .inl ⟨rfl, vs, .inl (.inl e4)⟩, a, vs, rfl, rfl, e4, k M _ σ (s.turn hi e1 .nil_)⟩
/-- xs[i] = e -/
theorem s_item {i : Nat} {n : Str} {xs : List D} {b : Expr} {sp : Pos} {j : Int} {m : Nat} (hN : X.N[i]? = some n) (hv : Vis X.env.scope n) (h1 : (n == ("__debug__" : Str)) = false) (h2 : (n == ("__classdict__" : Str)) = false)
    (ha : ∀ v, assign (.Subscript (.Name n p) b sp) X.env v = (do
      let ov ← holding [v] (eval (.Name n p) X.env)
      let iv ← holding [v, ov] (eval b X.env)
      standAt sp
      holding [v, ov, iv] (setItem ov iv v)
      release [v, ov, iv] [])) (q1 : swapsWithSole [.Subscript (.Name n p) b sp] e pos.line X.env = pure false) (q2 : swappedStores [.Subscript (.Name n p) b sp] e X.env = pure none)
    (hi : env[i]? = some (some (.own xs))) (h : EV X e (thawS env) d) (hf : flat d = true) (hj : EV X b (thawS env) (.int j)) (hx : ixN xs.length j = some m) :
    SOK X (.Assign [.Subscript (.Name n p) b sp] e pos) env (.nx (env.set i (some (.own (xs.set m d))))) := fun M0 H0 M H σ E s k => by
  obtain ⟨a, vs, g1, g2, g3, g4, g5⟩ := s.own i xs hi
  refine ⟨_, ps_asg pe_w (pg_sub (pe_var hN hv h1 h2) pe_w set_list ha) q1 q2, ?_⟩
  refine s.eval h fun v M1 H1 s1 sm rp => ?_
  rw [hf] at s1
  refine ⟨.ref a, g1, ?_⟩
  refine SRel.eval hj s1 fun w M2 H2 s2 sm2 rp2 => ?_
  cases rp2
  have rp' : Rp X.K M2 v d := dp_mono sm2 _ _ rp
  obtain ⟨_, ws, f1, f2, f3, f4, f5⟩ := s2.own i xs hi
  rw [g1] at f1
  cases f1
  exact ⟨a, ws, j, m, rfl, rfl, f4, by rw [rpa_len f5]; exact hx, k M2 _ σ (s2.turn hi g1 (dpa_set rp' m f5))⟩
def putKD (ks : List (Key × D)) (k : Key) (d : D) : List (Key × D) := if (ks.any fun p => decide (p.1 = k)) = true then ks.map (fun p => if p.1 = k then (p.1, d) else p) else ks ++ [(k, d)]
theorem dV_put (ks : List (Key × D)) (k : Key) (d : D) : dV (putKD ks k d) = putK (dV ks) k (atV d) := by
  have e : ((dV ks).any fun p => decide (p.1 = k)) = (ks.any fun p => decide (p.1 = k)) := by
    unfold dV
    rw [List.any_map]
    rfl
  unfold putKD putK
  rw [e]
  by_cases h : (ks.any fun p => decide (p.1 = k)) = true
  · rw [if_pos h, if_pos h]
    unfold dV
    rw [List.map_map, List.map_map]
    refine List.map_congr_left fun p _ => ?_
    simp only [Function.comp]
    by_cases hp : p.1 = k
    · rw [if_pos hp, if_pos hp]
    · rw [if_neg hp, if_neg hp]
  · rw [if_neg h, if_neg h]
    unfold dV
    rw [List.map_append]
    rfl
theorem at_put {ks : List (Key × D)} {k : Key} {d : D} (h : (ks.all fun p => atD p.2) = true) (hd : atD d = true) : ((putKD ks k d).all fun p => atD p.2) = true := by
  unfold putKD
  split
  · rw [List.all_map, List.all_eq_true]
    intro p hp
    simp only [Function.comp]
    split
    · exact hd
    · exact List.all_eq_true.mp h p hp
  · rw [List.all_append, h, List.all_cons, hd]
    rfl
def keyOfD : D → Option Key
  | .int i => some (.inl i)
  | .str z => some (.inr z)
  | _ => none
theorem keyOfD_eq {d : D} {k : Key} (h : keyOfD d = some k) : d = keyD k := by
  cases d <;> first | (cases h; done) | (cases h; rfl)
theorem rp_key {K : PySem.W.Frag} {M : Hp} {v : V} {k : Key} (r : Rp K M v (keyD k)) : v = kV k := by
  cases k with
  | inl i => cases r; rfl
  | inr z => cases r; rfl
theorem rp_atV {K : PySem.W.Frag} {M : Hp} {v : V} {d : D} (h : atD d = true) (r : Rp K M v d) : v = atV d := by
  cases r <;> first | rfl | cases h
theorem flat_key (k : Key) : flat (keyD k) = true := by cases k <;> rfl
theorem flat_at {d : D} (h : atD d = true) : flat d = true := by
  cases d <;> first | rfl | cases h
theorem s_newK {i : Nat} {n : Str} {dp : Pos} (hN : X.N.Nodup) (hi : X.N[i]? = some n) (hl : Loc X.env.scope n) (hf : X.fn n = true ∨ X.env.scope.names.lookup n = some .local) : SOK X (.Assign [.Name n p] (.Dict [] [] dp) pos) env (.nx (env.set i (some (.ownK [])))) := fun M0 H0 M H σ E s k =>
  ⟨_, ps_set hN hi hl pe_dnewK rfl hf, fun q hq => k M _ _ ((s.step (Stp.mine (o := .dK []) s.st.mh hq)).putOwnK (s.st.h.free hq) (s.st.mh.free hq) upd_same rfl fun i ls h1 h2 => by
    obtain ⟨a, f1, _, _, f4, _⟩ := s.ownk i ls h1
    rw [h2] at f1
    cases f1
    rw [hq] at f4
    cases f4)⟩
theorem s_putK {i : Nat} {n : Str} {ks : List (Key × D)} {b : Expr} {sp : Pos} {y : D} {kk : Key} (hu : X.A.units + 64 < cLine) (hN : X.N[i]? = some n) (hv : Vis X.env.scope n) (h1 : (n == ("__debug__" : Str)) = false) (h2 : (n == ("__classdict__" : Str)) = false)
    (hs : swapsWith e (some (.Subscript (.Name n p) b sp)) pos.line X.env = pure false) (hi : env[i]? = some (some (.ownK ks))) (h : EV X e (thawS env) d) (hf : atD d = true) (hj : EV X b (thawS env) y) (hk : keyOfD y = some kk) (hx : ks.length < lim) :
    SOK X (.Assign [.Subscript (.Name n p) b sp] e pos) env (.nx (env.set i (some (.ownK (putKD ks kk d))))) := fun M0 H0 M H σ E s k => by
  have hy := keyOfD_eq hk
  subst hy
  obtain ⟨a, g1, g2, g3, g4, g5⟩ := s.ownk i ks hi
  refine ⟨_, ps_dput (by omega) (pe_var hN hv h1 h2) pe_w pe_w hs, ?_⟩
  refine s.eval h fun v M1 H1 s1 sm rp => ?_
  rw [flat_at hf] at s1
  refine ⟨.ref a, g1, ?_⟩
  refine SRel.eval hj s1 fun w M2 H2 s2 sm2 rp2 => ?_
  rw [flat_key] at s2
  have e1 := rp_key rp2
  have e2 := rp_atV hf rp
  subst e1 e2
  obtain ⟨b, f1, f2, f3, f4, f5⟩ := s2.ownk i ks hi
  rw [g1] at f1
  cases f1
  refine ⟨a, _, rfl, DPut.k f4 ?_, ?_⟩
  · unfold dV
    rw [List.length_map]
    exact Nat.lt_of_lt_of_le hx lim_line
  · have st := s2.turnK hi g1 (at_put (k := kk) f5 hf)
    rw [dV_put] at st
    exact k M2 _ σ st
theorem Stp.rebase {M0 H0 M1 H1 M H : Hp} (s : Stp M0 H0 M1 H1) (m : Same M1 M) (t : Stp M0 H0 M H) : Stp M1 H0 M H := ⟨m, t.h, t.mh, fun a o h n => t.nw a o h (by
  cases e : M0 a with
  | none => rfl
  | some u =>
    rw [s.m a u e] at n
    cases n)⟩
theorem Stp.unbase {M0 H0 M1 H1 M H : Hp} (s : Stp M0 H0 M1 H1) (t : Stp M1 H0 M H) : Stp M0 H0 M H := ⟨s.m.trans t.m, t.h, t.mh, fun a o h n => t.nw a o h (s.nw a o h n)⟩
theorem SRel.rebase {K : PySem.W.Frag} {M0 H0 M H M1 H1 : Hp} {σ : L2.St} (s : SRel K M0 H0 M H σ env) (t : Stp M0 H0 M1 H1) (m : Same M1 M) : SRel K M1 H0 M H σ env := ⟨s.len, t.rebase m s.st, s.data, s.own, s.dist, s.ownk, s.distk⟩
theorem SRel.unbase {K : PySem.W.Frag} {M0 H0 M H M1 H1 : Hp} {σ : L2.St} (s : SRel K M1 H0 M H σ env) (t : Stp M0 H0 M1 H1) : SRel K M0 H0 M H σ env := ⟨s.len, t.unbase s.st, s.data, s.own, s.dist, s.ownk, s.distk⟩
def hide1 : Option Sv → Option D
  | some (.d x) => some x
  | _ => none
def hideS (env : SE) : DE := env.map hide1
theorem SRel.slH {K : PySem.W.Frag} {M0 H0 M H : Hp} {σ : L2.St} (s : SRel K M0 H0 M H σ env) : Sl K M σ (hideS env) where
  len := by unfold hideS; rw [List.length_map, s.len]
  at_ := fun i d h => by
    unfold hideS at h
    rw [List.getElem?_map] at h
    cases e : env[i]? with
    | none => rw [e] at h; cases h
    | some o =>
      rw [e] at h
      cases o with
      | none => cases h
      | some v =>
        cases v with
        | d x => cases h; exact s.data i _ e
        | own xs => cases h
        | ownK ks => cases h
/-- one's own list is from here on only read -/
def frzAt (env : SE) (i : Nat) : SE := match env[i]? with
  | some (some (.own xs)) => env.set i (some (.d (.list xs)))
  | _ => env
theorem SRel.frz {K : PySem.W.Frag} {M0 H0 M H : Hp} {σ : L2.St} (s : SRel K M0 H0 M H σ env) (i : Nat) : ∃ M', Same M M' ∧ SRel K M0 H0 M' H σ (frzAt env i) := by
  unfold frzAt
  split
  · rename_i xs hi
    obtain ⟨a, vs, e1, e2, e3, e4, r⟩ := s.own i xs hi
    have sm : Same M (upd M a (.lst vs)) := same_new e2
    have il : i < env.length := (List.getElem?_eq_some_iff.mp hi).1
    have inv : ∀ (j : Nat) (zs : List D), (env.set i (some (Sv.d (.list xs))))[j]? = some (some (.own zs)) → i ≠ j ∧ env[j]? = some (some (.own zs)) := fun j zs h => by
      by_cases hj : i = j
      · subst hj
        rw [List.getElem?_set_self il] at h
        cases h
      · rw [List.getElem?_set_ne hj] at h
        exact ⟨hj, h⟩
    have invK : ∀ (j : Nat) (zs : List (Key × D)), (env.set i (some (Sv.d (.list xs))))[j]? = some (some (.ownK zs)) → i ≠ j ∧ env[j]? = some (some (.ownK zs)) := fun j zs h => by
      by_cases hj : i = j
      · subst hj
        rw [List.getElem?_set_self il] at h
        cases h
      · rw [List.getElem?_set_ne hj] at h
        exact ⟨hj, h⟩
    refine ⟨_, sm, ⟨by rw [List.length_set, s.len], ⟨s.st.m.trans sm, s.st.h, fun b o h => ?_, fun b o h n => ?_⟩, fun j x h => ?_, fun j zs h => ?_, fun j k zs ws c h1 h2 h3 h4 => s.dist j k zs ws c (inv j zs h1).2 (inv k ws h2).2 h3 h4, fun j zs h => ?_, fun j k zs ws c h1 h2 h3 h4 => s.distk j k zs ws c (invK j zs h1).2 (invK k ws h2).2 h3 h4⟩⟩
    · by_cases hb : b = a
      · subst hb
        rw [upd_same] at h
        rw [e4]
        exact h
      · rw [upd_ne hb] at h
        exact s.st.mh b o h
    · rw [upd_ne fun z => by rw [z, e3] at h; cases h]
      exact s.st.nw b o h n
    · by_cases hj : i = j
      · subst hj
        rw [List.getElem?_set_self il] at h
        cases h
        exact ⟨.ref a, e1, .list_ (.inl upd_same) (dpa_mono sm _ _ r)⟩
      · rw [List.getElem?_set_ne hj] at h
        obtain ⟨v, f1, f2⟩ := s.data j x h
        exact ⟨v, f1, dp_mono sm _ _ f2⟩
    · obtain ⟨hj, h⟩ := inv j zs h
      obtain ⟨b, us, f1, f2, f3, f4, f5⟩ := s.own j zs h
      refine ⟨b, us, f1, ?_, f3, f4, dpa_mono sm _ _ f5⟩
      rw [upd_ne fun z => hj (s.dist i j xs zs a hi h e1 (by rw [f1, z]))]
      exact f2
    · obtain ⟨hj, h⟩ := invK j zs h
      obtain ⟨b, f1, f2, f3, f4, f5⟩ := s.ownk j zs h
      refine ⟨b, f1, ?_, f3, f4, f5⟩
      rw [upd_ne fun z => by rw [z, e4] at f4; cases f4]
      exact f2
  · exact ⟨M, .refl _, s⟩
def frzL : List Nat → SE → SE
  | [], env => env
  | i :: is, env => frzL is (frzAt env i)
theorem SRel.frzs {K : PySem.W.Frag} {M0 H0 H : Hp} {σ : L2.St} : ∀ {is : List Nat} {M : Hp} {env : SE}, SRel K M0 H0 M H σ env → ∃ M', Same M M' ∧ SRel K M0 H0 M' H σ (frzL is env)
  | [], M, _, s => ⟨M, .refl _, s⟩
  | i :: is, M, env, s => by
    obtain ⟨M1, m1, s1⟩ := s.frz i
    obtain ⟨M2, m2, s2⟩ := SRel.frzs (is := is) s1
    exact ⟨M2, m1.trans m2, s2⟩
def forD (body : SE → Option Fl) (tgt : Tgt) : List D → SE → Option Fl
  | [], env => some (.nx env)
  | x :: xs, env => match tgt.vals x with
    | none => none
    | some vs => match body (setSv env tgt.ix vs) with
      | some (.nx e) => forD body tgt xs e
      | some (.ct e) => forD body tgt xs e
      | some (.brk e) => some (.nx e)
      | some (.ret d fr) => some (.ret d fr)
      | none => none
theorem s_for {tg iter : Expr} {body : List Stmt} {tgt : Tgt} {fs : List Nat} {xs : List D} {bd : SE → Option Fl} (hp : PassesOwn (model X.prog X.w) X.A X.env X.xe) (hc : X.calm = true) (hset : ∀ es k p, iter ≠ .Set es k p) (hit : EVI X tg iter (hideS (frzL fs env)) xs) (htg : TgOk X tg tgt)
    (hb : ∀ env r, bd env = some r → SsOK X body env r) (hr : forD bd tgt xs (frzL fs env) = some r) : SOK X (.For tg iter body [] pos) env r := fun M0 H0 M H σ E s0 k => by
  obtain ⟨M, _, s⟩ := s0.frzs (is := fs)
  refine ⟨_, ps_for hp hc pi_w pg_w pss_w (noSet_fold hset), ?_⟩
  refine hit σ M H _ s.slH s.st.mh fun J M1 H1 st1 wk => ?_
  refine ⟨fun i m σ H => m = xs.length - i ∧ i ≤ xs.length ∧ ∃ M env, SRel X.K M0 H0 M H σ env ∧ Same M1 M ∧ forD bd tgt (xs.drop i) env = some r,
    ⟨xs.length, rfl, Nat.zero_le _, M1, _, s.step st1, .refl _, hr⟩, ?_⟩
  rintro i m σ2 H2 ⟨rfl, hile, M2, env2, s2, m2, hf⟩
  by_cases hi : i < xs.length
  · refine .inr ⟨wk.go i H2 hi (m2.trans s2.st.mh), fun σ H => ∃ M env, SRel X.K M0 H0 M H σ env ∧ Same M1 M ∧ forD bd tgt (xs.drop (i + 1)) env = some r, ?_, ?_⟩
    · rintro σ' H' ⟨M3, env3, a1, a2, a3⟩
      exact ⟨xs.length - (i + 1), by omega, rfl, by omega, M3, env3, a1, a2, a3⟩
    · intro v H' hyld
      obtain ⟨M3, d, st3, hd, rd⟩ := wk.yld i v M2 H2 H' hi m2 s2.st.mh hyld
      have hdrop : xs.drop i = d :: xs.drop (i + 1) := by
        obtain ⟨hl, e⟩ := List.getElem?_eq_some_iff.mp hd
        rw [List.drop_eq_getElem_cons hl, e]
      rw [hdrop] at hf
      unfold forD at hf
      split at hf
      · cases hf
      · rename_i vs hvals
        have s3 := s2.step st3
        refine htg M3 H' σ2 v d vs _ st3.mh rd hvals fun ws ra => ?_
        have s4 := s3.putAll (is := tgt.ix) ra
        have sb : SRel X.K M1 H0 M3 H' _ _ := s4.rebase (s.step st1).st (m2.trans st3.m)
        have back := fun {M5 H5 : Hp} {σ5 : L2.St} {e5 : SE} (s5 : SRel X.K M1 H0 M5 H5 σ5 e5) => s5.unbase (s.step st1).st
        split at hf
        · rename_i e5 hb5
          exact hb _ _ hb5 M1 H0 M3 H' _ _ sb fun M5 H5 σ5 s5 => ⟨M5, e5, back s5, s5.st.m, hf⟩
        · rename_i e5 hb5
          exact hb _ _ hb5 M1 H0 M3 H' _ _ sb fun M5 H5 σ5 s5 => ⟨M5, e5, back s5, s5.st.m, hf⟩
        · rename_i e5 hb5
          cases hf
          exact hb _ _ hb5 M1 H0 M3 H' _ _ sb fun M5 H5 σ5 s5 => k M5 H5 σ5 (back s5)
        · rename_i d5 fr5 hb5
          cases hf
          exact hb _ _ hb5 M1 H0 M3 H' _ _ sb fun M5 H5 v5 r5 => k M5 H5 v5 ⟨Stp.unbase (s.step st1).st r5.1, r5.2⟩
        · cases hf
  · have hi' : i = xs.length := by omega
    rw [hi', List.drop_length] at hf
    cases hf
    exact .inl ⟨wk.stop i H2 (by omega) (m2.trans s2.st.mh), k M2 H2 σ2 s2⟩
def whD (t : SE → Option Bool) (body : SE → Option Fl) : Nat → SE → Option Fl
  | 0, _ => none
  | n + 1, env => match t env with
    | none => none
    | some false => some (.nx env)
    | some true => match body env with
      | some (.nx e) => whD t body n e
      | some (.ct e) => whD t body n e
      | some (.brk e) => some (.nx e)
      | some (.ret d fr) => some (.ret d fr)
      | none => none
theorem SRel.evalN {X : Cx} {e : Expr} {ds : List D} {Q : VK} {M0 H0 M H : Hp} {σ : L2.St} {env : SE} (h : EVM X e (thawS env) (.list ds)) (hf : flats ds = true) (s : SRel X.K M0 H0 M H σ env)
    (k : ∀ p vs M' H', SRel X.K M0 H0 M' H' σ env → Same M M' → Rd M' p (.lst vs) → RpA X.K M' vs ds → Q (.ref p) H') : WE X e σ H Q := by
  refine h σ (froz M H σ env) H Q s.sl s.froz_up fun p vs M1 H1 hp mp st hv r => ?_
  have far : ¬ ownAt σ env p := fun w => by
    obtain ⟨_, _, us, e, _⟩ := s.at_own w
    rw [hp] at e
    cases e
  have sub : Same M1 (upd M1 p (.lst vs)) := same_new mp
  have st' : Stp (froz M H σ env) H (upd M1 p (.lst vs)) H1 := by
    refine ⟨st.m.trans sub, st.h, fun a o e => ?_, fun a o e n => ?_⟩
    · by_cases w : a = p
      · subst w
        rw [upd_same] at e
        cases e
        exact hv
      · rw [upd_ne w] at e
        exact st.mh a o e
    · by_cases w : a = p
      · subst w
        rw [hp] at e
        cases e
      · rw [upd_ne w]
        exact st.nw a o e n
  refine k p vs _ H1 (s.after st') (s.after_m st') (.inl ?_) (dpa_less (s.own_lst st') ds vs hf (dpa_mono sub _ _ r))
  rw [lessOf_out far]
  exact upd_same
theorem s_forN {tg iter : Expr} {body : List Stmt} {tgt : Tgt} {xs : List D} {bd : SE → Option Fl} (hp : PassesOwn (model X.prog X.w) X.A X.env X.xe) (hc : X.calm = true) (hset : ∀ es k p, iter ≠ .Set es k p) (hit : EVM X iter (thawS env) (.list xs)) (hfl : flats xs = true) (htg : TgOk X tg tgt)
    (hb : ∀ env r, bd env = some r → SsOK X body env r) (hr : forD bd tgt xs env = some r) : SOK X (.For tg iter body [] pos) env r := fun M0 H0 M H σ E s k => by
  refine ⟨_, ps_for hp hc (pi_list pe_w) pg_w pss_w (noSet_fold hset), ?_⟩
  refine s.evalN hit hfl fun q us M1 H1 s1 _ rd rp => ⟨_, rfl, ⟨_, .inl (rd_up s1.st.mh rd)⟩, ?_⟩
  have wk := walks_list (K := X.K) rd rp
  refine ⟨fun i m σ H => m = xs.length - i ∧ i ≤ xs.length ∧ ∃ M env, SRel X.K M0 H0 M H σ env ∧ Same M1 M ∧ forD bd tgt (xs.drop i) env = some r,
    ⟨xs.length, rfl, Nat.zero_le _, M1, _, s1, .refl _, hr⟩, ?_⟩
  rintro i m σ2 H2 ⟨rfl, hile, M2, env2, s2, m2, hf⟩
  by_cases hi : i < xs.length
  · refine .inr ⟨wk.go i H2 hi (m2.trans s2.st.mh), fun σ H => ∃ M env, SRel X.K M0 H0 M H σ env ∧ Same M1 M ∧ forD bd tgt (xs.drop (i + 1)) env = some r, ?_, ?_⟩
    · rintro σ' H' ⟨M3, env3, a1, a2, a3⟩
      exact ⟨xs.length - (i + 1), by omega, rfl, by omega, M3, env3, a1, a2, a3⟩
    · intro v H' hyld
      obtain ⟨M3, d, st3, hd, rd⟩ := wk.yld i v M2 H2 H' hi m2 s2.st.mh hyld
      have hdrop : xs.drop i = d :: xs.drop (i + 1) := by
        obtain ⟨hl, e⟩ := List.getElem?_eq_some_iff.mp hd
        rw [List.drop_eq_getElem_cons hl, e]
      rw [hdrop] at hf
      unfold forD at hf
      split at hf
      · cases hf
      · rename_i vs hvals
        have s3 := s2.step st3
        refine htg M3 H' σ2 v d vs _ st3.mh rd hvals fun ws ra => ?_
        have s4 := s3.putAll (is := tgt.ix) ra
        have sb : SRel X.K M1 H0 M3 H' _ _ := s4.rebase s1.st (m2.trans st3.m)
        have back := fun {M5 H5 : Hp} {σ5 : L2.St} {e5 : SE} (s5 : SRel X.K M1 H0 M5 H5 σ5 e5) => s5.unbase s1.st
        split at hf
        · rename_i e5 hb5
          exact hb _ _ hb5 M1 H0 M3 H' _ _ sb fun M5 H5 σ5 s5 => ⟨M5, e5, back s5, s5.st.m, hf⟩
        · rename_i e5 hb5
          exact hb _ _ hb5 M1 H0 M3 H' _ _ sb fun M5 H5 σ5 s5 => ⟨M5, e5, back s5, s5.st.m, hf⟩
        · rename_i e5 hb5
          cases hf
          exact hb _ _ hb5 M1 H0 M3 H' _ _ sb fun M5 H5 σ5 s5 => k M5 H5 σ5 (back s5)
        · rename_i d5 fr5 hb5
          cases hf
          exact hb _ _ hb5 M1 H0 M3 H' _ _ sb fun M5 H5 v5 r5 => k M5 H5 v5 ⟨Stp.unbase s1.st r5.1, r5.2⟩
        · cases hf
  · have hi' : i = xs.length := by omega
    rw [hi', List.drop_length] at hf
    cases hf
    exact .inl ⟨wk.stop i H2 (by omega) (m2.trans s2.st.mh), k M2 H2 σ2 s2⟩
theorem s_while {body : List Stmt} {t : SE → Option Bool} {bd : SE → Option Fl} {n : Nat} (hp : PassesOwn (model X.prog X.w) X.A X.env X.xe) (ht : ∀ env b, t env = some b → EVT X c (thawS env) b) (hb : ∀ env r, bd env = some r → SsOK X body env r)
    (hr : whD t bd n env = some r) : SOK X (.While c body [] pos) env r := fun M0 H0 M H σ E s k => by
  refine ⟨_, ps_while hp pt_w pss_w, fun m σ H => ∃ M env, SRel X.K M0 H0 M H σ env ∧ whD t bd m env = some r, ⟨n, M, env, s, hr⟩, ?_⟩
  rintro m σ2 H2 ⟨M2, env2, s2, hw⟩
  cases m with
  | zero => cases hw
  | succ m =>
    unfold whD at hw
    split at hw
    · cases hw
    · rename_i hb2
      cases hw
      refine s2.test (ht _ _ hb2) fun M3 H3 s3 _ => ?_
      rw [if_neg Bool.false_ne_true]
      exact k M3 H3 σ2 s3
    · rename_i hb2
      refine s2.test (ht _ _ hb2) fun M3 H3 s3 _ => ?_
      rw [if_pos rfl]
      refine ⟨fun σ H => ∃ M env, SRel X.K M0 H0 M H σ env ∧ whD t bd m env = some r, fun σ' H' q => ⟨m, Nat.lt_succ_self m, q⟩, ?_⟩
      split at hw
      · rename_i e5 hb5
        exact hb _ _ hb5 M0 H0 M3 H3 _ _ s3 fun M5 H5 σ5 s5 => ⟨M5, e5, s5, hw⟩
      · rename_i e5 hb5
        exact hb _ _ hb5 M0 H0 M3 H3 _ _ s3 fun M5 H5 σ5 s5 => ⟨M5, e5, s5, hw⟩
      · rename_i e5 hb5
        cases hw
        exact hb _ _ hb5 M0 H0 M3 H3 _ _ s3 fun M5 H5 σ5 s5 => k M5 H5 σ5 s5
      · rename_i d5 fr5 hb5
        cases hw
        exact hb _ _ hb5 M0 H0 M3 H3 _ _ s3 fun M5 H5 v5 r5 => k M5 H5 v5 r5
      · cases hw
end
end PU
set_option backward.match.sparseCases false
namespace PU
open PySem PySem.Spec PyProof.Rows L2
section
variable {K : PySem.W.Frag} {M0 H0 M H : Hp} {σ σ2 : L2.St} {env env2 : SE}
theorem SRel.re (s : SRel K M0 H0 M H σ env) (f : Nat → Nat) (hl : σ2.length = env2.length) (h : ∀ i z, env2[i]? = some (some z) → env[f i]? = some (some z) ∧ σ2[i]? = σ[f i]?)
    (inj : ∀ i j z z', env2[i]? = some (some z) → env2[j]? = some (some z') → f i = f j → i = j) : SRel K M0 H0 M H σ2 env2 where
  len := hl
  st := s.st
  data := fun i x e => by
    obtain ⟨e1, e2⟩ := h i _ e
    rw [e2]
    exact s.data _ x e1
  own := fun i xs e => by
    obtain ⟨e1, e2⟩ := h i _ e
    rw [e2]
    exact s.own _ xs e1
  dist := fun i j xs ys a e1 e2 e3 e4 => inj i j _ _ e1 e2 (s.dist _ _ xs ys a (h i _ e1).1 (h j _ e2).1 (by rw [← (h i _ e1).2]; exact e3) (by rw [← (h j _ e2).2]; exact e4))
  ownk := fun i ks e => by
    obtain ⟨e1, e2⟩ := h i _ e
    rw [e2]
    exact s.ownk _ ks e1
  distk := fun i j xs ys a e1 e2 e3 e4 => inj i j _ _ e1 e2 (s.distk _ _ xs ys a (h i _ e1).1 (h j _ e2).1 (by rw [← (h i _ e1).2]; exact e3) (by rw [← (h j _ e2).2]; exact e4))
theorem SRel.moveTo {i j : Nat} {xs : List D} {v : V} (s : SRel K M0 H0 M H σ env) (hj : env[j]? = some (some (.own xs))) (hv : σ[j]? = some (some v)) (hij : i ≠ j) (hi : i < env.length) :
    SRel K M0 H0 M H (σ.set i (some v)) ((env.set j none).set i (some (.own xs))) := by
  refine s.re (fun t => if t = i then j else t) (by rw [List.length_set, List.length_set, List.length_set, s.len]) (fun t z e => ?_) (fun a b us ws e1 e2 e => ?_)
  · by_cases ht : t = i
    · subst ht
      rw [List.getElem?_set_self (by rw [List.length_set]; exact hi)] at e
      cases e
      refine ⟨by rw [if_pos rfl]; exact hj, ?_⟩
      rw [if_pos rfl, List.getElem?_set_self (by rw [s.len]; exact hi), hv]
    · rw [List.getElem?_set_ne (fun z => ht z.symm)] at e
      have htj : t ≠ j := fun z => by
        subst z
        rw [List.getElem?_set_self (List.getElem?_eq_some_iff.mp hj).1] at e
        cases e
      rw [List.getElem?_set_ne (fun z => htj z.symm)] at e
      refine ⟨by rw [if_neg ht]; exact e, ?_⟩
      rw [if_neg ht, List.getElem?_set_ne (fun z => ht z.symm)]
  · have nj : ∀ (t : Nat) (us : Sv), ((env.set j none).set i (some (.own xs)))[t]? = some (some us) → t ≠ j := fun t us e z => by
      subst z
      rw [List.getElem?_set_ne hij, List.getElem?_set_self (List.getElem?_eq_some_iff.mp hj).1] at e
      cases e
    have na := nj a us e1
    have nb := nj b ws e2
    by_cases ha : a = i <;> by_cases hb : b = i <;> simp only [ha, hb, if_pos, if_neg, ite_true, ite_false] at e <;> omega
theorem SRel.moveBack {i j : Nat} {ys : List D} (hij : i ≠ j) (hi : i < env.length) (hjl : j < env.length) (s : SRel K M0 H0 M H σ ((env.set j none).set i (some (.own ys)))) (hv : σ[i]? = σ[j]?) :
    SRel K M0 H0 M H σ ((env.set j (some (.own ys))).set i none) := by
  have hl := s.len
  rw [List.length_set, List.length_set] at hl
  refine s.re (fun t => if t = j then i else t) (by rw [List.length_set, List.length_set, hl]) (fun t z e => ?_) (fun a b us ws e1 e2 e => ?_)
  · have ht : t ≠ i := fun z => by
      subst z
      rw [List.getElem?_set_self (by rw [List.length_set]; exact hi)] at e
      cases e
    rw [List.getElem?_set_ne (fun z => ht z.symm)] at e
    by_cases htj : t = j
    · subst htj
      rw [List.getElem?_set_self hjl] at e
      cases e
      refine ⟨by rw [if_pos rfl, List.getElem?_set_self (by rw [List.length_set]; exact hi)], ?_⟩
      rw [if_pos rfl, hv]
    · rw [List.getElem?_set_ne (fun z => htj z.symm)] at e
      refine ⟨?_, by rw [if_neg htj]⟩
      rw [if_neg htj, List.getElem?_set_ne (fun z => ht z.symm), List.getElem?_set_ne (fun z => htj z.symm)]
      exact e
  · have ni : ∀ (t : Nat) (us : Sv), ((env.set j (some (.own ys))).set i none)[t]? = some (some us) → t ≠ i := fun t us e z => by
      subst z
      rw [List.getElem?_set_self (by rw [List.length_set]; exact hi)] at e
      cases e
    have na := ni a us e1
    have nb := ni b ws e2
    by_cases ha : a = j <;> by_cases hb : b = j <;> simp only [ha, hb, if_pos, if_neg, ite_true, ite_false] at e <;> omega
end
section
variable {X : Cx} {env : SE} {pos : Pos} {r : Fl}
def NameR (X : Cx) (e : Expr) (j : Nat) : Prop := ∃ n p, e = .Name n p ∧ X.N[j]? = some n ∧ Vis X.env.scope n ∧ (n == ("__debug__" : Str)) = false ∧ (n == ("__classdict__" : Str)) = false
def NamesR (X : Cx) : List Expr → List Nat → Prop
  | [], [] => True
  | e :: es, i :: is => NameR X e i ∧ NamesR X es is
  | _, _ => False
theorem names_raw {σ : L2.St} : ∀ {es : List Expr} {js : List Nat}, NamesR X es js → (∀ j ∈ js, ∃ v, σ[j]? = some (some v)) → ∃ (ta : TA) (vs : List V), PA X es ta ∧ vs.length = js.length ∧ (∀ (k j : Nat), js[k]? = some j → ∃ v, vs[k]? = some v ∧ σ[j]? = some (some v)) ∧ ∀ H Q, Q vs H → ta σ H Q
  | [], [], _, _ => ⟨_, [], pa_nil, rfl, fun k j h => by simp at h, fun H Q q => q⟩
  | [], _ :: _, h, _ => h.elim
  | _ :: _, [], h, _ => h.elim
  | e :: es, j :: js, h, hv => by
    obtain ⟨⟨n, p, rfl, h1, h2, h3, h4⟩, hr⟩ := h
    obtain ⟨ta, vs, a, b, c, d⟩ := names_raw hr fun j hj => hv j (List.mem_cons_of_mem _ hj)
    obtain ⟨v, ev⟩ := hv j List.mem_cons_self
    refine ⟨_, v :: vs, pa_cons (pe_var h1 h2 h3 h4) a rfl, by rw [List.length_cons, List.length_cons, b], fun k l hk => ?_, fun H Q q => ⟨v, ev, d H _ q⟩⟩
    cases k with
    | zero =>
      cases hk
      exact ⟨v, rfl, ev⟩
    | succ k => exact c k l hk
inductive AR | go (ys : List D) | ret (d : D) (fr : Bool)
def forA (bd : SE → Option AR) (i : Nat) : List Nat → SE → Option Fl
  | [], env => some (.nx env)
  | j :: js, env => match env[j]? with
    | some (some (.own xs)) => match bd ((env.set j none).set i (some (.own xs))) with
      | some (.go ys) => forA bd i js ((env.set j (some (.own ys))).set i none)
      | some (.ret d fr) => some (.ret d fr)
      | none => none
    | _ => none
def BodyOk (X : Cx) (body : List Stmt) (i : Nat) (env : SE) : AR → Prop
  | .go ys => ∀ M0 H0 M H σ E, SRel X.K M0 H0 M H σ env → (∀ M1 H1, SRel X.K M0 H0 M1 H1 σ (env.set i (some (.own ys))) → E.nx σ H1) → WSs X body E σ H
  | .ret d fr => SsOK X body env (.ret d fr)
theorem s_forA {x : Str} {p lp : Pos} {es : List Expr} {js : List Nat} {i : Nat} {body : List Stmt} {bd : SE → Option AR} (hp : PassesOwn (model X.prog X.w) X.A X.env X.xe) (hc : X.calm = true) (hN : X.N.Nodup) (hx : NameOk X (.Name x p) i) (hes : NamesR X es js)
    (hij : ∀ j ∈ js, i ≠ j) (hown : ∀ j ∈ js, ∃ xs, env[j]? = some (some (.own xs))) (hlen : js.length ≤ lim) (hi : i < env.length) (hb : ∀ env r, bd env = some r → BodyOk X body i env r) (hr : forA bd i js env = some r) :
    SOK X (.For (.Name x p) (.List es lp) body [] pos) env r := fun M0 H0 M H σ E s k => by
  obtain ⟨ta, vs, hpa, hvl, hvs, hta⟩ := names_raw (σ := σ) hes fun j hj => by
    obtain ⟨xs, e⟩ := hown j hj
    obtain ⟨a, _, e1, _⟩ := s.own j xs e
    exact ⟨_, e1⟩
  obtain ⟨n, q, en, hi1, hl1, hf1⟩ := hx
  cases en
  refine ⟨_, ps_for hp hc (pi_list (pe_lst hpa)) (pg_name hN hi1 hl1 hf1) pss_w (noSet_fold fun _ _ _ z => by cases z), ?_⟩
  refine hta H _ ⟨by rw [hvl]; exact Nat.le_trans hlen lim_line, fun q hq => ⟨_, rfl, ⟨_, .inl (.inl upd_same)⟩, ?_⟩⟩
  have st1 : Stp M H (upd M q (.lst vs)) (upd H q (.lst vs)) := Stp.laid s.st.mh hq
  have s1 := s.step st1
  have rd : Rd (upd M q (.lst vs)) q (.lst vs) := .inl upd_same
  refine ⟨fun c m σ H => m = js.length - c ∧ c ≤ js.length ∧ ∃ M3 env, SRel X.K M0 H0 M3 H σ env ∧ Same (upd M q (.lst vs)) M3 ∧ i < env.length ∧ (∀ (k j : Nat), js[k]? = some j → ∃ v, vs[k]? = some v ∧ σ[j]? = some (some v)) ∧ forA bd i (js.drop c) env = some r,
    ⟨js.length, rfl, Nat.zero_le _, _, _, s1, .refl _, hi, hvs, hr⟩, ?_⟩
  rintro c m σ2 H2 ⟨rfl, hile, M2, env2, s2, m2, hi2, hv2, hf⟩
  by_cases hcl : c < js.length
  · refine .inr ⟨⟨vs, vs[c]'(by omega), .inl (rd_up (m2.trans s2.st.mh) rd), List.getElem?_eq_getElem _⟩, fun σ H => ∃ M3 env, SRel X.K M0 H0 M3 H σ env ∧ Same (upd M q (.lst vs)) M3 ∧ i < env.length ∧ (∀ (k j : Nat), js[k]? = some j → ∃ v, vs[k]? = some v ∧ σ[j]? = some (some v)) ∧ forA bd i (js.drop (c + 1)) env = some r, ?_, ?_⟩
    · rintro σ' H' ⟨M3, env3, a1, a2, a3, a4, a5⟩
      exact ⟨js.length - (c + 1), by omega, rfl, by omega, M3, env3, a1, a2, a3, a4, a5⟩
    · intro v H' hyld
      obtain ⟨rfl, hy⟩ := hyld
      have ev := hy vs (.inl (rd_up (m2.trans s2.st.mh) rd))
      obtain ⟨v', e1, e2⟩ := hv2 c js[c] (List.getElem?_eq_getElem hcl)
      rw [ev] at e1
      cases e1
      have hne : i ≠ js[c] := hij _ (List.getElem_mem hcl)
      have hdrop : js.drop c = js[c] :: js.drop (c + 1) := List.drop_eq_getElem_cons hcl
      rw [hdrop] at hf
      unfold forA at hf
      split at hf
      · rename_i xs hxs
        have s3 := s2.moveTo hxs e2 hne hi2
        have sb := s3.rebase s1.st m2
        have hjl : js[c] < env2.length := (List.getElem?_eq_some_iff.mp hxs).1
        split at hf
        · rename_i ys hb5
          refine hb _ _ hb5 _ H0 M2 H' _ _ sb fun M5 H5 s5 => ?_
          have s6 := s5.unbase s1.st
          rw [List.set_set] at s6
          have hls : σ2.length = env2.length := s2.len
          have s7 := SRel.moveBack hne hi2 hjl s6 (by rw [List.getElem?_set_self (by omega), List.getElem?_set_ne hne, e2])
          refine ⟨M5, _, s7, s5.st.m, by rw [List.length_set, List.length_set]; exact hi2, fun k j hk => ?_, hf⟩
          obtain ⟨w, f1, f2⟩ := hv2 k j hk
          refine ⟨w, f1, ?_⟩
          rw [List.getElem?_set_ne (hij j (List.mem_of_getElem? hk))]
          exact f2
        · rename_i d5 fr5 hb5
          cases hf
          exact hb _ _ hb5 _ H0 M2 H' _ _ sb fun M5 H5 v5 r5 => k M5 H5 v5 ⟨Stp.unbase s1.st r5.1, r5.2⟩
        · cases hf
      · cases hf
  · have hi' : c = js.length := by omega
    rw [hi', List.drop_length] at hf
    cases hf
    exact .inl ⟨⟨vs, .inl (rd_up (m2.trans s2.st.mh) rd), by omega⟩, k M2 H2 σ2 s2⟩
theorem body_look {c : Expr} {a : List Stmt} {i : Nat} {ys : List D} (h : EVT X c (thawS env) false) (hi : env[i]? = some (some (.own ys))) : BodyOk X [.If c a [] pos] i env (.go ys) := fun M0 H0 M H σ E s k => by
  refine ⟨_, pss_cons ps_w pss_w, ⟨_, ps_if pt_w pss_w pss_w, s.test h fun M1 H1 s1 _ => ⟨_, pss_nil, ⟨_, pss_nil, k M1 H1 ?_⟩⟩⟩⟩
  have e : env.set i (some (.own ys)) = env := by
    refine List.ext_getElem? fun t => ?_
    by_cases ht : i = t
    · subst ht
      rw [List.getElem?_set_self (List.getElem?_eq_some_iff.mp hi).1, hi]
    · rw [List.getElem?_set_ne ht]
  rw [e]
  exact s1
theorem body_push {e : Expr} {d : D} {p : Pos} {i : Nat} {n : Str} {xs : List D} {ap cp : Pos} (hN : X.N[i]? = some n) (hv : Vis X.env.scope n) (h1 : (n == ("__debug__" : Str)) = false) (h2 : (n == ("__classdict__" : Str)) = false) (hb : attributeBase (.Name n p) "append" X.env (eval (.Name n p) X.env) = eval (.Name n p) X.env)
    (hl : (ap.endLine == cp.line) = true) (hst : noStar e = true) (hi : env[i]? = some (some (.own xs))) (h : EV X e (thawS env) d) (hf : flat d = true) (hx : xs.length < lim) :
    BodyOk X [.Expr (.Call (.Attribute (.Name n p) "append" ap) [e] [] cp) pos] i env (.go (xs ++ [d])) := fun M0 H0 M H σ E s k => by
  obtain ⟨a, vs, e1, e2, e3, e4, e5⟩ := s.own i xs hi
  refine ⟨_, pss_cons ps_w pss_w, ⟨_, ps_expr (pe_bm PySem.F.plainAttrs_list PySem.F.slot_list_append PySem.F.type_list_append mt_append (pe_var hN hv h1 h2) (pa_cons pe_w pa_nil (star_cons hst)) hb (by rw [star_cons hst]; rfl) hl (star_cons hst) rfl), .ref a, e1, .inl ⟨rfl, vs, .inl (.inl e4)⟩, ?_⟩⟩
  refine s.eval h fun v M1 H1 s1 sm rp => ?_
  rw [hf] at s1
  obtain ⟨b, ws, f1, f2, f3, f4, f5⟩ := s1.own i xs hi
  rw [e1] at f1
  cases f1
  refine ⟨a, ws, v, rfl, rfl, f4, ?_, ⟨_, pss_nil, k M1 _ (s1.turn hi e1 (dpa_app f5 (.cons_ rp .nil_)))⟩⟩
  rw [rpa_len f5]
  exact Nat.lt_of_lt_of_le hx lim_line
end
end PU
set_option backward.match.sparseCases false
namespace PU
open PySem PySem.Spec PyProof.Rows L2

abbrev Den := List Sem1 → DE → Option D
abbrev DenT := List Sem1 → DE → Option Bool
abbrev DenA := List Sem1 → DE → Option (List D)
abbrev DenS := List Sem1 → SE → Option Fl
def eFail : Den := fun _ _ => none
def eVar (i : Nat) : Den := fun _ env => match env[i]? with
  | some (some d) => some d
  | _ => none
def eC (d : D) : Den := fun _ _ => some d
def eBin (o : Op) (a b : Den) : Den := fun F env => match a F env with
  | some x => match b F env with
    | some y => opD o x y
    | none => none
  | none => none
def eNeg (a : Den) : Den := fun F env => match a F env with
  | some (.int i) => some (.int (-i))
  | _ => none
def eNot (a : Den) : Den := fun F env => match a F env with
  | some (.bool b) => some (.bool (!b))
  | _ => none
def eAnd (a b : Den) : Den := fun F env => match a F env with
  | some (.bool true) => b F env
  | some (.bool false) => some (.bool false)
  | _ => none
def eOr (a b : Den) : Den := fun F env => match a F env with
  | some (.bool false) => b F env
  | some (.bool true) => some (.bool true)
  | _ => none
def eIf (t : DenT) (a b : Den) : Den := fun F env => match t F env with
  | some true => a F env
  | some false => b F env
  | none => none
def aNil : DenA := fun _ _ => some []
def aCons (a : Den) (r : DenA) : DenA := fun F env => match a F env with
  | some x => match r F env with
    | some xs => some (x :: xs)
    | none => none
  | none => none
def eTup (as : DenA) : Den := fun F env => match as F env with
  | some ds => if ds.length ≤ lim then some (.tuple ds) else none
  | none => none
def eLst (as : DenA) : Den := fun F env => match as F env with
  | some ds => if ds.length ≤ lim then some (.list ds) else none
  | none => none
def eIx (a b : Den) : Den := fun F env => match a F env with
  | some x => match b F env with
    | some y => ixD x y
    | none => none
  | none => none
def optI (o : Option Den) : List Sem1 → DE → Option (Option Int) := fun F env => match o with
  | none => some none
  | some a => match a F env with
    | some (.int i) => some (some i)
    | _ => none
def eRev (a : Den) : Den := fun F env => match a F env with
  | some (.list xs) => some (.list xs.reverse)
  | _ => none
def eSl (a : Den) (lo hi : Option Den) : Den := fun F env => match a F env with
  | some x => match optI lo F env with
    | some l => match optI hi F env with
      | some h => slD x l h
      | none => none
    | none => none
  | none => none
def eStep (k : Int) (a : Den) (lo hi : Option Den) : Den := fun F env => match a F env with
  | some x => match optI lo F env with
    | some l => match optI hi F env with
      | some h => stepD k x l h
      | none => none
    | none => none
  | none => none
def eCall (k : Nat) (as : DenA) : Den := fun F env => match as F env with
  | some ds => match F[k]? with
    | some s => s.run ds
    | none => none
  | none => none
def eIsi (T : Ty) (a : Den) : Den := fun F env => match a F env with
  | some (.dict _) => none
  | some x => some (.bool (isiD T x))
  | none => none
def tB (a : Den) : DenT := fun F env => match a F env with
  | some (.bool b) => some b
  | _ => none
def tVal (a : Den) : DenT := fun F env => match a F env with
  | some x => truD x
  | none => none
def tNot (a : DenT) : DenT := fun F env => match a F env with
  | some b => some (!b)
  | none => none
def tAnd (a b : DenT) : DenT := fun F env => match a F env with
  | some true => b F env
  | some false => some false
  | none => none
def tOr (a b : DenT) : DenT := fun F env => match a F env with
  | some false => b F env
  | some true => some true
  | none => none
def tFail : DenT := fun _ _ => none
def tYes' : DenT := fun _ _ => some true
def eChain (o o' : Op) (a b c : Den) : Den := fun F env => match a F env with
  | some x => match b F env with
    | some y => match opD o x y with
      | some (.bool true) => match c F env with
        | some z => opD o' y z
        | none => none
      | some (.bool false) => some (.bool false)
      | _ => none
    | none => none
  | none => none
def iSeq (a : Den) : DenA := fun F env => match a F env with
  | some (.list xs) => some xs
  | some (.tuple xs) => some xs
  | _ => none
def iRange1 (a : Den) : DenA := fun F env => match a F env with
  | some (.int k) => if k ≤ 1000000000 ∧ -1000000000 ≤ k then some (rangeD 0 k.toNat) else none
  | _ => none
def iRange2 (a b : Den) : DenA := fun F env => match a F env with
  | some (.int lo) => match b F env with
    | some (.int k) => if k ≤ 1000000000 ∧ -1000000000 ≤ k ∧ lo ≤ 1000000000 ∧ -1000000000 ≤ lo then some (rangeD lo (k - lo).toNat) else none
    | _ => none
  | _ => none
def iZip (a b : Den) : DenA := fun F env => match (a F env).bind seqD with
  | some xs => match (b F env).bind seqD with
    | some ys => some ((xs.zip ys).map fun p => .tuple [p.1, p.2])
    | none => none
  | none => none
def eInT (kvs : List (Str × D)) (neg : Bool) (a : Den) : Den := fun F env => match a F env with
  | some x => if isKey x then some (.bool ((kvs.any fun p => keyEq (.str p.1) x) != neg)) else none
  | none => none
def eGetT (kvs : List (Str × D)) (a : Den) : Den := fun F env => match a F env with
  | some x => if isKey x then (kvs.find? fun p => keyEq (.str p.1) x).map (·.2) else none
  | none => none
def iFail : DenA := fun _ _ => none
def lcTurn (tgt : Tgt) (own : List Nat) (t : DenT) (e : Den) (F : List Sem1) (env : DE) (x : D) : Option (Option D) := match tgt.vals x with
  | none => none
  | some vs => match t F (setDs (wipeD env own) tgt.ix vs) with
    | none => none
    | some false => some none
    | some true => match e F (setDs (wipeD env own) tgt.ix vs) with
      | some d => some (some d)
      | none => none
def eLc (own : List Nat) (tgt : Tgt) (it : DenA) (t : DenT) (e : Den) : Den := fun F env => match it F env with
  | some xs => if xs.length ≤ lim then (match lcD (lcTurn tgt own t e F env) xs with
    | some ys => some (.list ys)
    | none => none) else none
  | none => none
def sortU (ys : List D) : Option D := match intsU ys with
  | some zs => if zs.length < 64 then some (.list ((nubS zs).map PyData.int)) else none
  | none => none
def eSortSc (own : List Nat) (tgt : Tgt) (it : DenA) (t : DenT) (e : Den) : Den := fun F env => match it F env with
  | some xs => if xs.length ≤ 2000 then (match lcD (lcTurn tgt own t e F env) xs with
    | some ys => sortU ys
    | none => none) else none
  | none => none
def eJoin (a b : Den) : Den := fun F env => match a F env with
  | some x => match b F env with
    | some y => joinD x y
    | none => none
  | none => none
def eSplit (a b : Den) : Den := fun F env => match a F env with
  | some x => match b F env with
    | some y => splitD x y
    | none => none
  | none => none
def eDec (a : Den) : Den := fun F env => match a F env with
  | some x => decD x
  | none => none
inductive Mk | no | yes | call (k : Nat)
def Mk.val : Mk → List Sem1 → Bool
  | .no, _ => false
  | .yes, _ => true
  | .call k, F => match F[k]? with
    | some s => s.fresh
    | none => false
def sNil : DenS := fun _ env => some (.nx env)
def sSeq (a b : DenS) : DenS := fun F env => match a F env with
  | some (.nx e) => b F e
  | r => r
def asgV (mk : Bool) (i : Nat) (d : D) (env : SE) : SE := match mk, d with
  | true, .list ds => (aft (flats ds) env).set i (some (.own ds))
  | _, d => (aft (flat d) env).set i (some (.d d))
def sAsg (i : Nat) (mk : Mk) (e : Den) : DenS := fun F env => match e F (thawS env) with
  | some d => some (.nx (asgV (mk.val F) i d env))
  | none => none
def sAsgT (tgt : Tgt) (e : Den) : DenS := fun F env => match e F (thawS env) with
  | some d => match tgt.vals d with
    | some ds => some (.nx (setSv (aft (flat d) env) tgt.ix ds))
    | none => none
  | none => none
def sStar (is : List Nat) (j : Nat) (e : Den) : DenS := fun F env => match e F (thawS env) with
  | some d => match seqD d with
    | some ds => if is.length ≤ ds.length ∧ ds.length ≤ lim then some (.nx ((setSv (aft (flat d) env) is (ds.take is.length)).set j (some (.own (ds.drop is.length))))) else none
    | none => none
  | none => none
inductive AOp | add | sub
def AOp.f : AOp → Int → Int → Int
  | .add => fun i j => i + j
  | .sub => fun i j => i - j
def sAug (i : Nat) (o : AOp) (e : Den) : DenS := fun F env => match env[i]? with
  | some (some (.d (.int a))) => match e F (thawS env) with
    | some (.int b) => some (.nx (env.set i (some (.d (.int (o.f a b))))))
    | _ => none
  | _ => none
def sApp (i : Nat) (e : Den) : DenS := fun F env => match env[i]? with
  | some (some (.own xs)) => match e F (thawS env) with
    | some d => if flat d = true ∧ xs.length < lim then some (.nx (env.set i (some (.own (xs ++ [d]))))) else none
    | none => none
  | _ => none
def sExt (i : Nat) (mk : Mk) (e : Den) : DenS := fun F env => match env[i]? with
  | some (some (.own xs)) => match e F (thawS env) with
    | some (.list ys) => if mk.val F = true ∧ flats ys = true ∧ xs.length + ys.length ≤ lim then some (.nx (env.set i (some (.own (xs ++ ys))))) else none
    | _ => none
  | _ => none
def sIns (i : Nat) (a e : Den) : DenS := fun F env => match env[i]? with
  | some (some (.own xs)) => match a F (thawS env) with
    | some (.int j) => match e F (thawS env) with
      | some d => if flat d = true ∧ xs.length < lim ∧ 0 ≤ j ∧ j ≤ 1000000 then some (.nx (env.set i (some (.own (xs.take j.toNat ++ [d] ++ xs.drop j.toNat))))) else none
      | none => none
    | _ => none
  | _ => none
def sClr (i : Nat) : DenS := fun F env => match env[i]? with
  | some (some (.own _)) => some (.nx (env.set i (some (.own []))))
  | _ => none
def sNewK (i : Nat) : DenS := fun _ env => some (.nx (env.set i (some (.ownK []))))
def sItem (i : Nat) (a e : Den) : DenS := fun F env => match env[i]? with
  | some (some (.own xs)) => match e F (thawS env) with
    | some d => match a F (thawS env) with
      | some (.int j) => match ixN xs.length j with
        | some m => if flat d = true then some (.nx (env.set i (some (.own (xs.set m d))))) else none
        | none => none
      | _ => none
    | none => none
  | some (some (.ownK ks)) => match e F (thawS env) with
    | some d => match (a F (thawS env)).bind keyOfD with
      | some k => if atD d = true ∧ ks.length < lim then some (.nx (env.set i (some (.ownK (putKD ks k d))))) else none
      | none => none
    | none => none
  | _ => none
def sIf (t : DenT) (a b : DenS) : DenS := fun F env => match t F (thawS env) with
  | some true => a F env
  | some false => b F env
  | none => none
def sFor (fs : List Nat) (tgt : Tgt) (it : DenA) (body : DenS) : DenS := fun F env => match it F (hideS (frzL fs env)) with
  | some xs => forD (body F) tgt xs (frzL fs env)
  | none => none
def sForN (mk : Mk) (tgt : Tgt) (e : Den) (body : DenS) : DenS := fun F env => match mk.val F, e F (thawS env) with
  | true, some (.list xs) => if flats xs = true then forD (body F) tgt xs env else none
  | _, _ => none
def isNew : Expr → Bool
  | .BinOp _ _ _ _ => true
  | .Call (.Name f _) _ _ _ => f == ("_law_cuts" : Str)
  | _ => false
def sWhile (n : Nat) (t : DenT) (body : DenS) : DenS := fun F env => whD (fun env => t F (thawS env)) (body F) n env
def retV (mk : Bool) (d : D) : Fl := match mk, d with
  | true, .list ds => .ret (.list ds) true
  | _, d => .ret d false
def sRet (mk : Mk) (e : Den) : DenS := fun F env => match e F (thawS env) with
  | some d => some (retV (mk.val F) d)
  | none => none
def sRetV (i : Nat) : DenS := fun F env => match env[i]? with
  | some (some (.own xs)) => some (.ret (.list xs) true)
  | some (some (.d x)) => some (.ret x false)
  | _ => none
def sRetN : DenS := fun _ _ => some (.ret .none false)
def sDrop (e : Den) : DenS := fun F env => match e F (thawS env) with
  | some d => some (.nx (aft (flat d) env))
  | none => none
def sBrk : DenS := fun _ env => some (.brk env)
def sCt : DenS := fun _ env => some (.ct env)
def sFail : DenS := fun _ _ => none

def ixOf (x : Str) : List Str → Option Nat
  | [] => none
  | n :: r => if n = x then some 0 else (ixOf x r).map (· + 1)
theorem ixOf_get {x : Str} : ∀ {N : List Str} {i : Nat}, ixOf x N = some i → N[i]? = some x
  | [], _, h => by cases h
  | n :: r, i, h => by
    unfold ixOf at h
    split at h
    · rename_i e
      cases h
      rw [e]
      rfl
    · cases e : ixOf x r with
      | none => rw [e] at h; cases h
      | some j =>
        rw [e] at h
        cases h
        have ih := ixOf_get e
        show r[j]? = some x
        exact ih
def visK (sc : Scope) (x : Str) : Bool := match sc.names.lookup x with
  | some .local => true
  | some .cell => true
  | some .free => true
  | _ => false
def stoK (top : Bool) (sc : Scope) (x : Str) : Bool := match sc.names.lookup x with
  | some .local => true
  | some .cell => top
  | _ => false
def gloK (sc : Scope) (x : Str) : Bool := match sc.names.lookup x with
  | some .globalImplicit => true
  | _ => false
def plainN (x : Str) : Bool := !(x == ("__debug__" : Str)) && !(x == ("__classdict__" : Str))
def opOf : Operator → Option Op
  | .Add => some .add
  | .Sub => some .sub
  | .Mult => some .mul
  | .FloorDiv => some .fdiv
  | .Mod => some .mod
  | .Pow => some .pow
  | _ => none
def cmpOf : CmpOp → Option Op
  | .Eq => some .eq
  | .NotEq => some .ne
  | .Lt => some .lt
  | .LtE => some .le
  | .Gt => some .gt
  | .GtE => some .ge
  | .Is => some .is_
  | .IsNot => some .isnot
  | .In => some .isin
  | .NotIn => some .notin
def tyOf (x : Str) : Option Ty := if x = Ty.sn .int then some .int else if x = Ty.sn .bool then some .bool else if x = Ty.sn .str then some .str else if x = Ty.sn .list then some .list else if x = Ty.sn .tuple then some .tuple else none
def plainIx : Expr → Bool
  | .Slice _ _ _ _ => false
  | _ => true
def plainT : Expr → Bool
  | .BoolOp _ _ _ => false
  | .UnaryOp _ _ _ => false
  | .IfExp _ _ _ _ => false
  | .Compare _ _ _ _ => false
  | _ => true
def noSet : Expr → Bool
  | .Set _ _ _ => false
  | _ => true
def tgN (top : Bool) (N : List Str) (sc : Scope) : Expr → Option Nat
  | .Name x _ => if stoK top sc x then ixOf x N else none
  | _ => none
def tgNs (top : Bool) (N : List Str) (sc : Scope) : List Expr → Option (List Nat)
  | [] => some []
  | e :: es => match tgN top N sc e, tgNs top N sc es with
    | some i, some is => some (i :: is)
    | _, _ => none
def tgtOf (top : Bool) (N : List Str) (sc : Scope) : Expr → Option Tgt
  | .Name x p => (tgN top N sc (.Name x p)).map .one
  | .Tuple es _ _ => (tgNs top N sc es).map .tup
  | _ => none
def ownOf (N : List Str) (scope : Scope) : List (Str × Nat) := scope.names.filterMap fun (x, k) => if k = .local ∨ k = .cell then (ixOf x N).map fun i => (x, i) else none
def ownIn (N : List Str) (scope : Scope) (tgt : Tgt) : Bool := tgt.ix.all fun i => (ownOf N scope).any fun p => p.2 == i
def ands : List Den → Den
  | [] => eFail
  | [a] => a
  | a :: r => eAnd a (ands r)
def ors : List Den → Den
  | [] => eFail
  | [a] => a
  | a :: r => eOr a (ors r)
def tands : List DenT → DenT
  | [] => tFail
  | [a] => a
  | a :: r => tAnd a (tands r)
def tors : List DenT → DenT
  | [] => tFail
  | [a] => a
  | a :: r => tOr a (tors r)
def dargs : List Den → DenA
  | [] => aNil
  | a :: r => aCons a (dargs r)
def oneT : List DenT → DenT
  | [] => tYes'
  | [c] => c
  | _ => tFail
structure Tx where
  N : List Str
  T : List Str
  B : List Str
  G : List (Str × Gv)
def gFind (x : Str) : List (Str × Gv) → Option Gv
  | [] => none
  | p :: r => if p.1 = x then some p.2 else gFind x r
def gvOf (t : Tx) (sc : Scope) (x : Str) : Option Gv := if (gloK sc x && plainN x) = true then gFind x t.G else none
def tabOf (t : Tx) (sc : Scope) : Expr → Option (List (Str × D))
  | .Name x _ => match gvOf t sc x with
    | some (.tab kvs) => some kvs
    | _ => none
  | _ => none
def cInT (kvs : List (Str × D)) : CmpOp → Den → Den
  | .In, a => eInT kvs false a
  | .NotIn, a => eInT kvs true a
  | _, _ => eFail
def starOf (t : Tx) (sc : Scope) : List Expr → Option (List Nat × Nat)
  | [] => none
  | .Starred e _ :: r => if r.isEmpty then (tgN true t.N sc e).map fun j => ([], j) else none
  | e :: r => match tgN true t.N sc e, starOf t sc r with
    | some i, some (is, j) => some (i :: is, j)
    | _, _ => none
def scArg (a : Expr) (es : List Expr) : Option (Expr × Expr × Expr × List Expr × Scope) := match a, es with
  | .SetComp elt [⟨tg, iter, ifs, 0⟩] scope _, [] => some (elt, tg, iter, ifs, scope)
  | _, _ => none
theorem scArg_eq {a : Expr} {es : List Expr} {elt tg iter : Expr} {ifs : List Expr} {scope : Scope} (h : scArg a es = some (elt, tg, iter, ifs, scope)) : ∃ p, a = .SetComp elt [⟨tg, iter, ifs, 0⟩] scope p ∧ es = [] := by
  unfold scArg at h
  split at h
  · cases h
    exact ⟨_, rfl, rfl⟩
  · cases h
def cstD : Const → Option D
  | .int i => some (.int i)
  | .bool b => some (.bool b)
  | .str z => some (.str z)
  | .none => some .none
  | _ => none
mutual
def denE (t : Tx) : Nat → Scope → Expr → Den
  | 0, _, _ => eFail
  | n + 1, sc, e => match e with
    | .Name x _ => match visK sc x && plainN x, ixOf x t.N with
      | true, some i => eVar i
      | _, _ => match gvOf t sc x with
        | some (.int i) => eC (.int i)
        | _ => eFail
    | .Constant c _ _ => match cstD c with
      | some d => eC d
      | none => eFail
    | .BinOp a o b _ => match opOf o with
      | some o => eBin o (denE t n sc a) (denE t n sc b)
      | none => eFail
    | .Compare a [o] [b] _ => match tabOf t sc b with
      | some kvs => cInT kvs o (denE t n sc a)
      | none => match behindInMarks o b, cmpOf o with
        | false, some o => eBin o (denE t n sc a) (denE t n sc b)
        | _, _ => eFail
    | .Compare a [o, o2] [b, c] _ => match lastMarks [o, o2] [b, c], cmpOf o, cmpOf o2 with
      | false, some o, some o2 => eChain o o2 (denE t n sc a) (denE t n sc b) (denE t n sc c)
      | _, _, _ => eFail
    | .UnaryOp .USub a _ => eNeg (denE t n sc a)
    | .UnaryOp .Not a _ => eNot (denE t n sc a)
    | .BoolOp .And es _ => ands (es.map fun e => denE t n sc e)
    | .BoolOp .Or es _ => ors (es.map fun e => denE t n sc e)
    | .IfExp c a b _ => eIf (denT t n sc c) (denE t n sc a) (denE t n sc b)
    | .Tuple es _ _ => if es.all noStar then eTup (dargs (es.map fun e => denE t n sc e)) else eFail
    | .List es _ => if es.all noStar then eLst (dargs (es.map fun e => denE t n sc e)) else eFail
    | .Subscript a (.Slice none none (some (.UnaryOp .USub (.Constant (.int 1) _ _) _)) _) _ => eRev (denE t n sc a)
    | .Subscript a (.Slice lo hi none _) _ => eSl (denE t n sc a) (lo.map fun e => denE t n sc e) (hi.map fun e => denE t n sc e)
    | .Subscript a (.Slice lo hi (some (.Constant (.int k) _ _)) _) _ => if k = 0 then eFail else eStep k (denE t n sc a) (lo.map fun e => denE t n sc e) (hi.map fun e => denE t n sc e)
    | .Subscript a b _ => if plainIx b then (match tabOf t sc a with
      | some kvs => eGetT kvs (denE t n sc b)
      | none => eIx (denE t n sc a) (denE t n sc b)) else eFail
    | .Dict keys values _ => match dispOf keys values with
      | some ks => if ks ≠ [] ∧ ks.length ≤ 15 ∧ (ks.map (·.1)).Nodup then eC (dictD ks) else eFail
      | none => eFail
    | .Call (.Name f _) (a :: es) [] _ => match gloK sc f && (a :: es).all noStar && plainN f with
      | true => match ixOf f t.T with
        | some k => match scArg a es with
          | some (elt, tg, iter, ifs, scope) => match decide (f = "sorted") && t.B.contains f, tgtOf false t.N (relS scope sc) tg with
            | true, some tgt => match blkC t.N sc scope (ownOf t.N scope) && noSet iter && ownIn t.N scope tgt with
              | true => eSortSc ((ownOf t.N scope).map (·.2)) tgt (denI t n sc tg iter) (oneT (ifs.map fun c => denT t n (relS scope sc) c)) (denE t n (relS scope sc) elt)
              | false => eFail
            | _, _ => eFail
          | none => eCall k (dargs ((a :: es).map fun e => denE t n sc e))
        | none => match decide (f = "isinstance"), es with
          | true, [.Name c _] => match tyOf c, gloK sc c && t.B.contains f && t.B.contains c with
            | some T, true => eIsi T (denE t n sc a)
            | _, _ => eFail
          | _, _ => eFail
      | false => eFail
    | .Call (.Attribute o m ap) [e] [] cp => if (plainO o && noStar e && (ap.endLine == cp.line)) = true then (if m = "join" then eJoin (denE t n sc o) (denE t n sc e) else if m = "split" then eSplit (denE t n sc o) (denE t n sc e) else eFail) else eFail
    | .Call (.Attribute o m ap) [] [] cp => if (plainO o && (ap.endLine == cp.line) && decide (m = "isdecimal")) = true then eDec (denE t n sc o) else eFail
    | .ListComp elt [⟨tg, iter, ifs, 0⟩] scope _ => match tgtOf false t.N (relS scope sc) tg with
      | none => eFail
      | some tgt => match blkC t.N sc scope (ownOf t.N scope) && noSet iter && ownIn t.N scope tgt with
        | true => eLc ((ownOf t.N scope).map (·.2)) tgt (denI t n sc tg iter) (oneT (ifs.map fun c => denT t n (relS scope sc) c)) (denE t n (relS scope sc) elt)
        | false => eFail
    | _ => eFail
def denT (t : Tx) : Nat → Scope → Expr → DenT
  | 0, _, _ => tFail
  | n + 1, sc, e => match e with
    | .Compare a [o] [b] _ => match tabOf t sc b with
      | some kvs => tB (cInT kvs o (denE t n sc a))
      | none => match behindInMarks o b, cmpOf o with
        | false, some o => tB (eBin o (denE t n sc a) (denE t n sc b))
        | _, _ => tFail
    | .Compare a [o, o2] [b, c] _ => match lastMarks [o, o2] [b, c], cmpOf o, cmpOf o2 with
      | false, some o, some o2 => tB (eChain o o2 (denE t n sc a) (denE t n sc b) (denE t n sc c))
      | _, _, _ => tFail
    | .UnaryOp .Not a _ => tNot (denT t n sc a)
    | .BoolOp .And es _ => tands (es.map fun e => denT t n sc e)
    | .BoolOp .Or es _ => tors (es.map fun e => denT t n sc e)
    | e => if plainT e then tVal (denE t n sc e) else tFail
def denI (t : Tx) : Nat → Scope → Expr → Expr → DenA
  | 0, _, _, _ => iFail
  | n + 1, sc, tg, e => match e with
    | .Call (.Name f p) [a] [] q => match decide (f = "range") && t.B.contains f && gloK sc f && noStar a with
      | true => iRange1 (denE t n sc a)
      | false => iSeq (denE t n sc (.Call (.Name f p) [a] [] q))
    | .Call (.Name f p) [a, b] [] q => match decide (f = "range") && t.B.contains f && gloK sc f && noStar a && noStar b with
      | true => iRange2 (denE t n sc a) (denE t n sc b)
      | false => match decide (f = "zip") && t.B.contains f && gloK sc f && noStar a && noStar b, tg with
        | true, .Tuple _ _ _ => iZip (denE t n sc a) (denE t n sc b)
        | _, _ => iSeq (denE t n sc (.Call (.Name f p) [a, b] [] q))
    | e => iSeq (denE t n sc e)
end
def mkOf (t : Tx) : Expr → Mk
  | .List _ _ => .yes
  | .ListComp _ _ _ _ => .yes
  | .Subscript _ (.Slice _ _ _ _) _ => .yes
  | .BinOp _ _ _ _ => .yes
  | .Call (.Name f _) _ _ _ => match ixOf f t.T with
    | some k => .call k
    | none => .no
  | _ => .no
/-- the slots whose names stand in an expression (as far as it matters which lists a for reads) -/
def slotsOf (t : Tx) : Nat → Expr → List Nat
  | 0, _ => []
  | n + 1, e => match e with
    | .Name x _ => (ixOf x t.N).toList
    | .BinOp a _ b _ => slotsOf t n a ++ slotsOf t n b
    | .Subscript a b _ => slotsOf t n a ++ slotsOf t n b
    | .Slice lo hi _ _ => (lo.toList.flatMap fun e => slotsOf t n e) ++ hi.toList.flatMap fun e => slotsOf t n e
    | .Call _ es _ _ => es.flatMap fun e => slotsOf t n e
    | .List es _ => es.flatMap fun e => slotsOf t n e
    | .Tuple es _ _ => es.flatMap fun e => slotsOf t n e
    | .ListComp _ gs _ _ => gs.flatMap fun g => slotsOf t n g.iter
    | .IfExp c a b _ => slotsOf t n c ++ slotsOf t n a ++ slotsOf t n b
    | _ => []
def isLc : Expr → Bool
  | .ListComp _ _ _ _ => true
  | .SetComp _ _ _ _ => true
  | .DictComp _ _ _ _ _ => true
  | _ => false
def lcSwap (sc : Scope) (x : Str) (p : Pos) : Expr → Bool
  | .ListComp _ [g] scope q => decide (g.is_async = 0) && sc.names.lookup x == some .local && p.line == q.line && !(scope.names.any fun (n, k) => n == x && (k == .local || k == .cell))
  | _ => false
def isTup : Expr → Bool
  | .Tuple _ _ _ => true
  | .List _ _ => true
  | _ => false
/-- the own list at a name -/
def slot (t : Tx) (sc : Scope) (x : Str) : Option Nat := if visK sc x && plainN x then ixOf x t.N else none
def slotsN (t : Tx) (sc : Scope) : List Expr → Option (List Nat)
  | [] => some []
  | .Name x _ :: es => match slot t sc x, slotsN t sc es with
    | some j, some js => some (j :: js)
    | _, _ => none
  | _ :: _ => none
def isOwn : Option (Option Sv) → Bool
  | some (some (.own _)) => true
  | _ => false
def sForAl (js : List Nat) (i : Nat) (bd : List Sem1 → SE → Option AR) (els : DenS) : DenS := fun F env => if (js.all fun j => isOwn env[j]?) = true ∧ (js.all fun j => i != j) = true ∧ i < env.length ∧ js.length ≤ lim then forA (bd F) i js env else els F env
def bLook (i : Nat) (t : DenT) (b : DenS) : List Sem1 → SE → Option AR := fun F env => match env[i]?, t F (thawS env) with
  | some (some (.own xs)), some false => some (.go xs)
  | _, some true => match b F env with
    | some (.ret d fr) => some (.ret d fr)
    | _ => none
  | _, _ => none
def bPush (i : Nat) (e : Den) : List Sem1 → SE → Option AR := fun F env => match env[i]?, e F (thawS env) with
  | some (some (.own xs)), some d => if flat d = true ∧ xs.length < lim then some (.go (xs ++ [d])) else none
  | _, _ => none
def alDen (t : Tx) (sc : Scope) (tg iter : Expr) (body : List Stmt) (bd base : DenS) : DenS := fun F env => match tg, iter with
  | .Name x _, .List es _ => match stoK true sc x, ixOf x t.N, slotsN t sc es with
    | true, some i, some js => match body with
      | [.If c _ [] _] => sForAl js i (bLook i (denT t 40 sc c) bd) base F env
      | [.Expr (.Call (.Attribute (.Name y _) m ap) [e] [] cp) _] => match slot t sc y, ap.endLine == cp.line && noStar e && decide (y = x) && decide (m = "append") with
        | some _, true => sForAl js i (bPush i (denE t 40 sc e)) base F env
        | _, _ => base F env
      | _ => base F env
    | _, _, _ => base F env
  | _, _ => base F env
mutual
def denS (t : Tx) (big : Nat) (sc : Scope) : Nat → Stmt → DenS
  | 0, _ => sFail
  | n + 1, s => match s with
    | .Pass _ => sNil
    | .Break _ => sBrk
    | .Continue _ => sCt
    | .Return none _ => sRetN
    | .Return (some (.Name x p)) _ => match slot t sc x with
      | some i => sRetV i
      | none => sFail
    | .Return (some e) _ => sRet (mkOf t e) (denE t 40 sc e)
    | .Expr (.Constant (.str _) _ _) _ => sNil
    | .Expr (.Call (.Attribute (.Name x _) m ap) [e] [] cp) _ => match slot t sc x, ap.endLine == cp.line && noStar e with
      | some i, true => if m = "append" then sApp i (denE t 40 sc e) else if m = "extend" then sExt i (mkOf t e) (denE t 40 sc e) else sFail
      | _, _ => sFail
    | .Expr (.Call (.Attribute (.Name x _) m ap) [a, e] [] cp) _ => match slot t sc x, ap.endLine == cp.line && noStar a && noStar e && decide (m = "insert") with
      | some i, true => sIns i (denE t 40 sc a) (denE t 40 sc e)
      | _, _ => sFail
    | .Expr (.Call (.Attribute (.Name x _) m ap) [] [] cp) _ => match slot t sc x, ap.endLine == cp.line && decide (m = "clear") with
      | some i, true => sClr i
      | _, _ => sFail
    | .Assign [.Name x _] (.Dict [] [] _) _ => match stoK true sc x, ixOf x t.N with
      | true, some i => sNewK i
      | _, _ => sFail
    | .Assign [.Name x p] e pos => match stoK true sc x, ixOf x t.N with
      | true, some i => if isLc e && !lcSwap sc x p e then sFail else sAsg i (mkOf t e) (denE t 40 sc e)
      | _, _ => sFail
    | .Assign [.Tuple es k q] e pos => match starOf t sc es with
      | some (is, j) => if (!isTup e && !isLc e) = true then sStar is j (denE t 40 sc e) else sFail
      | none => match tgtOf true t.N sc (.Tuple es k q), !isTup e && !isLc e with
        | some tgt, true => sAsgT tgt (denE t 40 sc e)
        | _, _ => sFail
    | .Assign [.Subscript (.Name x _) b _] e _ => match slot t sc x, plainIx b && !isLc e with
      | some i, true => sItem i (denE t 40 sc b) (denE t 40 sc e)
      | _, _ => sFail
    | .AugAssign (.Name x _) o e _ => match stoK true sc x, ixOf x t.N, o with
      | true, some i, .Add => sAug i .add (denE t 40 sc e)
      | true, some i, .Sub => sAug i .sub (denE t 40 sc e)
      | _, _, _ => sFail
    | .If c a b _ => sIf (denT t 40 sc c) (denSs t big sc n a) (denSs t big sc n b)
    | .For tg iter body [] _ => alDen t sc tg iter body (denSs t big sc n body) (match tgtOf true t.N sc tg, noSet iter with
      | some tgt, true => if isNew iter = true then sForN (mkOf t iter) tgt (denE t 40 sc iter) (denSs t big sc n body) else sFor (slotsOf t 40 iter) tgt (denI t 40 sc tg iter) (denSs t big sc n body)
      | _, _ => sFail)
    | .While c body [] _ => sWhile big (denT t 40 sc c) (denSs t big sc n body)
    | _ => sFail
def denSs (t : Tx) (big : Nat) (sc : Scope) : Nat → List Stmt → DenS
  | 0, _ => sFail
  | _ + 1, [] => sNil
  | n + 1, s :: r => sSeq (denS t big sc n s) (denSs t big sc n r)
end
end PU
set_option backward.match.sparseCases false
namespace PU
open PySem PySem.Spec PyProof.Rows L2

structure Ct (X : Cx) (t : Tx) (sc : Scope) (F : List Sem1) (top : Bool) : Prop where
  sc : X.env.scope = sc
  N : X.N = t.N
  nd : t.N.Nodup
  calm : X.calm = true
  kind : top = true → X.env.scope.kind = .function
  units : X.A.units + 64 < cLine
  fn : top = true → ∀ x, X.fn x = true
  bl : ∀ x ∈ t.B, X.mg x = none
  gl : ∀ p ∈ t.G, GOk X.K X.w X.mg p
  tab : ∀ X', Alike X X' → ∀ (k : Nat) (x : Str) (s : Sem1), t.T[k]? = some x → F[k]? = some s → CallOk X' x s
  pass : PassesOwn (model X.prog X.w) X.A X.env X.xe
theorem Ct.blk {X : Cx} {t : Tx} {sc scope : Scope} {F : List Sem1} {top : Bool} (ct : Ct X t sc F top) (B : Blk X scope) : Ct B.cx t (relS scope sc) F false where
  sc := by rw [← ct.sc]; rfl
  N := ct.N
  nd := ct.nd
  calm := ct.calm
  kind := fun h => nomatch h
  units := ct.units
  fn := fun h => nomatch h
  bl := ct.bl
  gl := ct.gl
  tab := fun X' al => ct.tab X' ⟨al.prog, al.w, al.K, al.mg, al.base, al.A, al.calm⟩
  pass := PassesOwn.never
section
variable {X : Cx} {t : Tx} {sc : Scope} {F : List Sem1} {top : Bool} {env : DE} {e : Expr} {d : D}
theorem vis_of (ct : Ct X t sc F top) {x : Str} (h : visK sc x = true) : Vis X.env.scope x := by
  rw [ct.sc]
  unfold visK at h
  unfold Vis
  split at h
  · rename_i e; exact .inl e
  · rename_i e; exact .inr (.inl e)
  · rename_i e; exact .inr (.inr e)
  · cases h
theorem glo_of (ct : Ct X t sc F top) {x : Str} (h : gloK sc x = true) : Gl X x := by
  show X.env.scope.names.lookup x = some .globalImplicit
  rw [ct.sc]
  unfold gloK at h
  split at h
  · rename_i e; exact e
  · cases h
theorem gFind_mem {x : Str} {g : Gv} : ∀ {l : List (Str × Gv)}, gFind x l = some g → (x, g) ∈ l
  | [], h => by cases h
  | p :: r, h => by
    unfold gFind at h
    split at h
    · rename_i e
      cases h
      subst e
      exact List.mem_cons_self
    · exact List.mem_cons_of_mem _ (gFind_mem h)
theorem gv_of (ct : Ct X t sc F top) {x : Str} {g : Gv} (h : gvOf t sc x = some g) : Gl X x ∧ (x == ("__debug__" : Str)) = false ∧ GOk X.K X.w X.mg (x, g) := by
  unfold gvOf at h
  split at h
  · rename_i hc
    rw [Bool.and_eq_true] at hc
    refine ⟨glo_of ct hc.1, ?_, ct.gl _ (gFind_mem h)⟩
    have z := hc.2
    unfold plainN at z
    rw [Bool.and_eq_true] at z
    simpa using z.1
  · cases h
theorem tab_of (ct : Ct X t sc F top) {kvs : List (Str × D)} (h : tabOf t sc e = some kvs) : ∃ x p a, e = .Name x p ∧ Gl X x ∧ (x == ("__debug__" : Str)) = false ∧ X.mg x = some (.ref a) ∧ TabK X.K X.w a kvs := by
  unfold tabOf at h
  split at h
  · rename_i x p
    split at h
    · rename_i kvs' hg
      cases h
      obtain ⟨h1, h2, a, h3, h4⟩ := gv_of ct hg
      exact ⟨x, p, a, rfl, h1, h2, h3, h4⟩
    · cases h
  · cases h
theorem sto_of (ct : Ct X t sc F top) {x : Str} (h : stoK top sc x = true) : L2.Loc X.env.scope x ∧ (X.fn x = true ∨ X.env.scope.names.lookup x = some .local) := by
  unfold L2.Loc
  rw [ct.sc]
  unfold stoK at h
  split at h
  · rename_i e; exact ⟨.inl e, .inr e⟩
  · rename_i e; exact ⟨.inr e, .inl (ct.fn h x)⟩
  · cases h
theorem plainN_of {x : Str} (h : plainN x = true) : (x == ("__debug__" : Str)) = false ∧ (x == ("__classdict__" : Str)) = false := by
  unfold plainN at h
  rw [Bool.and_eq_true] at h
  exact ⟨by simpa using h.1, by simpa using h.2⟩
theorem name_of (ct : Ct X t sc F top) {i : Nat} (h : tgN top t.N sc e = some i) : NameOk X e i := by
  unfold tgN at h
  split at h
  · split at h
    · rename_i x p hs
      obtain ⟨h1, h2⟩ := sto_of ct hs
      exact ⟨x, p, rfl, by rw [ct.N]; exact ixOf_get h, h1, h2⟩
    · cases h
  · cases h
theorem names_of (ct : Ct X t sc F top) : ∀ {es : List Expr} {is : List Nat}, tgNs top t.N sc es = some is → NamesOk X es is
  | [], is, h => by
    cases h
    trivial
  | e :: es, is, h => by
    unfold tgNs at h
    split at h
    · rename_i i js h1 h2
      cases h
      exact ⟨name_of ct h1, names_of ct h2⟩
    · cases h
theorem tg_of (ct : Ct X t sc F top) {tgt : Tgt} (h : tgtOf top t.N sc e = some tgt) : TgOk X e tgt := by
  unfold tgtOf at h
  split at h
  · rename_i x p
    cases h1 : tgN top t.N sc (.Name x p) with
    | none => rw [h1] at h; cases h
    | some i =>
      rw [h1] at h
      cases h
      exact tg_one (by rw [ct.N]; exact ct.nd) (name_of ct h1)
  · rename_i es k p
    cases h1 : tgNs top t.N sc es with
    | none => rw [h1] at h; cases h
    | some is =>
      rw [h1] at h
      cases h
      exact tg_tup ct.calm (by rw [ct.N]; exact ct.nd) (names_of ct h1)
  · cases h
theorem serves_op (ct : Ct X t sc F top) {o : Operator} {o' : Op} (h : opOf o = some o') : Serves X (binaryOp o) (opD o') := by
  cases o <;> first | (cases h; done) | (cases h; first | exact serves_add | exact serves_sub | exact serves_mul | exact serves_fdiv | exact serves_mod | exact serves_pow)
theorem serves_cmp (ct : Ct X t sc F top) {o : CmpOp} {o' : Op} (h : cmpOf o = some o') : Serves X (compareOp o) (opD o') := by
  cases o <;> cases h <;> first | exact serves_eq ct.units | exact serves_ne ct.units | exact serves_lt | exact serves_le ct.units | exact serves_gt | exact serves_ge | exact serves_is | exact serves_isnot | exact serves_in ct.units | exact serves_notin ct.units
theorem cst_of {c : Const} {k : Nat} {pos : Pos} (h : cstD c = some d) : EV X (.Constant c k pos) env d := by
  cases c <;> first | (cases h; done) | (cases h; first | exact ev_int | exact ev_bool | exact ev_str | exact ev_none)
theorem tyOf_sn {x : Str} {T : Ty} (h : tyOf x = some T) : x = T.sn := by
  unfold tyOf at h
  repeat' split at h
  all_goals first | (cases h; done) | (cases h; assumption)
theorem noSet_of (h : noSet e = true) : ∀ es k p, e ≠ .Set es k p := by
  intro es k p z
  subst z
  cases h
theorem plainIx_of (h : plainIx e = true) : PlainIx e := by
  intro o i
  cases e <;> first | rfl | cases h
theorem plainT_of (h : plainT e = true) : ∀ whole, isTrue e X.env whole = (do let v ← whole; standAt e.pos; holding [v] (truthy v)) := by
  intro whole
  cases e <;> first | rfl | cases h

theorem stars_of (ct : Ct X t sc F true) : ∀ {es : List Expr} {is : List Nat} {j : Nat}, starOf t sc es = some (is, j) → StarOk X es is j
  | [], _, _, h => by cases h
  | e :: r, is, j, h => by
    by_cases hs : ∃ e0 p, e = .Starred e0 p
    · obtain ⟨e0, p, rfl⟩ := hs
      have h : (if r.isEmpty then (tgN true t.N sc e0).map fun j => (([] : List Nat), j) else none) = some (is, j) := h
      split at h
      · rename_i hr
        cases hj : tgN true t.N sc e0 with
        | none => rw [hj] at h; cases h
        | some j' =>
          rw [hj] at h
          cases h
          exact ⟨List.isEmpty_iff.mp hr, rfl, name_of ct hj⟩
      · cases h
    · have h : (match tgN true t.N sc e, starOf t sc r with
        | some i, some (is, j) => some (i :: is, j)
        | _, _ => none) = some (is, j) := by
        cases e <;> first | exact absurd ⟨_, _, rfl⟩ hs | exact h
      split at h
      · rename_i i is' j' h1 h2
        cases h
        exact starOk_mk (fun e0 p z => hs ⟨e0, p, z⟩) (name_of ct h1) (stars_of ct h2)
      · cases h
/-- what is told of an expression -/
def EVQ (t : Tx) (F : List Sem1) (X : Cx) (e : Expr) (env : DE) (d : D) : Prop := EV X e env d ∧ ((mkOf t e).val F = true → EVM X e env d)
theorem EV.q (h : EV X e env d) (hm : (mkOf t e).val F = false) : EVQ t F X e env d := ⟨h, fun z => by rw [hm] at z; cases z⟩
theorem EVM.q (h : EVM X e env d) : EVQ t F X e env d := ⟨h.ev, fun _ => h⟩
def IHE (t : Tx) (F : List Sem1) (n : Nat) : Prop := ∀ X sc top (e : Expr) env d, Ct X t sc F top → denE t n sc e F env = some d → EVQ t F X e env d
def IHT (t : Tx) (F : List Sem1) (n : Nat) : Prop := ∀ X sc top (e : Expr) env b, Ct X t sc F top → denT t n sc e F env = some b → EVT X e env b
def IHI (t : Tx) (F : List Sem1) (n : Nat) : Prop := ∀ X sc top (tg e : Expr) env xs, Ct X t sc F top → denI t n sc tg e F env = some xs → EVI X tg e env xs
theorem args_of {n : Nat} (ih : IHE t F n) (ct : Ct X t sc F top) : ∀ {es : List Expr} {ds : List D}, es.all noStar = true → dargs (es.map fun e => denE t n sc e) F env = some ds → EVA X es env ds
  | [], ds, _, h => by
    cases h
    exact ea_nil
  | e :: es, ds, hs, h => by
    rw [List.all_cons, Bool.and_eq_true] at hs
    have h : aCons (denE t n sc e) (dargs (es.map fun e => denE t n sc e)) F env = some ds := h
    unfold aCons at h
    split at h
    · rename_i x hx
      split at h
      · rename_i xs hxs
        cases h
        exact ea_cons (ih X sc top e env x ct hx).1 (args_of ih ct hs.2 hxs) (star_cons hs.1)
      · cases h
    · cases h
theorem ands_of {n : Nat} (ih : IHE t F n) (ct : Ct X t sc F top) {pos : Pos} : ∀ {es : List Expr} {d : D}, ands (es.map fun e => denE t n sc e) F env = some d → EV X (.BoolOp .And es pos) env d
  | [], d, h => by cases h
  | [a], d, h => ev_one (ih X sc top a env d ct h).1
  | a :: b :: r, d, h => by
    have h : eAnd (denE t n sc a) (ands ((b :: r).map fun e => denE t n sc e)) F env = some d := h
    unfold eAnd at h
    split at h
    · rename_i ha
      exact ev_andT (ih X sc top a env _ ct ha).1 (ands_of ih ct h)
    · rename_i ha
      cases h
      exact ev_andF (ih X sc top a env _ ct ha).1
    · cases h
theorem ors_of {n : Nat} (ih : IHE t F n) (ct : Ct X t sc F top) {pos : Pos} : ∀ {es : List Expr} {d : D}, ors (es.map fun e => denE t n sc e) F env = some d → EV X (.BoolOp .Or es pos) env d
  | [], d, h => by cases h
  | [a], d, h => ev_one (ih X sc top a env d ct h).1
  | a :: b :: r, d, h => by
    have h : eOr (denE t n sc a) (ors ((b :: r).map fun e => denE t n sc e)) F env = some d := h
    unfold eOr at h
    split at h
    · rename_i ha
      exact ev_orF (ih X sc top a env _ ct ha).1 (ors_of ih ct h)
    · rename_i ha
      cases h
      exact ev_orT (ih X sc top a env _ ct ha).1
    · cases h
theorem tands_of {n : Nat} (ih : IHT t F n) (ct : Ct X t sc F top) {pos : Pos} : ∀ {es : List Expr} {d : Bool}, tands (es.map fun e => denT t n sc e) F env = some d → EVW X (.BoolOp .And es pos) env d
  | [], d, h => by cases h
  | [a], d, h => ew_and1 (ih X sc top a env d ct h)
  | a :: b :: r, d, h => by
    have h : tAnd (denT t n sc a) (tands ((b :: r).map fun e => denT t n sc e)) F env = some d := h
    unfold tAnd at h
    split at h
    · rename_i ha
      exact ew_andT (ih X sc top a env _ ct ha) (tands_of ih ct h)
    · rename_i ha
      cases h
      exact ew_andF (ih X sc top a env _ ct ha)
    · cases h
theorem tors_of {n : Nat} (ih : IHT t F n) (ct : Ct X t sc F top) {pos : Pos} : ∀ {es : List Expr} {d : Bool}, tors (es.map fun e => denT t n sc e) F env = some d → EVW X (.BoolOp .Or es pos) env d
  | [], d, h => by cases h
  | [a], d, h => ew_or1 (ih X sc top a env d ct h)
  | a :: b :: r, d, h => by
    have h : tOr (denT t n sc a) (tors ((b :: r).map fun e => denT t n sc e)) F env = some d := h
    unfold tOr at h
    split at h
    · rename_i ha
      exact ew_orF (ih X sc top a env _ ct ha) (tors_of ih ct h)
    · rename_i ha
      cases h
      exact ew_orT (ih X sc top a env _ ct ha)
    · cases h
theorem opt_of {n : Nat} (ih : IHE t F n) (ct : Ct X t sc F top) {o : Option Expr} {l : Option Int} (h : optI (o.map fun e => denE t n sc e) F env = some l) : EVO X o env l := by
  cases o with
  | none =>
    cases h
    exact eo_none
  | some a =>
    have h : (match denE t n sc a F env with
      | some (.int i) => some (some i)
      | _ => none) = some l := h
    split at h
    · rename_i i ha
      cases h
      exact eo_some (ih X sc top a env _ ct ha).1
    · cases h
theorem bin_of {n : Nat} (ih : IHE t F n) (ct : Ct X t sc F top) {o : Op} {a b : Expr} (h : eBin o (denE t n sc a) (denE t n sc b) F env = some d) : ∃ x y, EV X a env x ∧ EV X b env y ∧ opD o x y = some d := by
  unfold eBin at h
  split at h
  · rename_i x hx
    split at h
    · rename_i y hy
      exact ⟨x, y, (ih X sc top a env x ct hx).1, (ih X sc top b env y ct hy).1, h⟩
    · cases h
  · cases h
theorem cIn_of {n : Nat} (ih : IHE t F n) (ct : Ct X t sc F top) {o : CmpOp} {a b : Expr} {pos : Pos} {kvs : List (Str × D)} (ht : tabOf t sc b = some kvs) (h : cInT kvs o (denE t n sc a) F env = some d) : EV X (.Compare a [o] [b] pos) env d ∧ ∀ k, d = .bool k → EVT X (.Compare a [o] [b] pos) env k := by
  obtain ⟨x, p, l, rfl, h1, h2, h3, h4⟩ := tab_of ct ht
  have go : ∀ neg, eInT kvs neg (denE t n sc a) F env = some d → EV X (.Compare a [if neg then .NotIn else .In] [.Name x p] pos) env d ∧ ∀ k, d = .bool k → EVT X (.Compare a [if neg then .NotIn else .In] [.Name x p] pos) env k := by
    intro neg h
    unfold eInT at h
    split at h
    · rename_i y hy
      split at h
      · rename_i hk
        cases h
        have he := (ih X sc top a env y ct hy).1
        refine ⟨ev_tabIn neg h1 h2 h3 h4 he hk, fun k e => ?_⟩
        cases e
        exact et_tabIn neg h1 h2 h3 h4 he hk
      · cases h
    · cases h
  cases o <;> first | (cases h; done) | exact go false h | exact go true h
theorem chain_of {n : Nat} (ih : IHE t F n) (ct : Ct X t sc F top) {o o' : Op} {a b c : Expr} (h : eChain o o' (denE t n sc a) (denE t n sc b) (denE t n sc c) F env = some d) :
    ∃ x y k, EV X a env x ∧ EV X b env y ∧ opD o x y = some (.bool k) ∧ (k = false → d = .bool false) ∧ (k = true → ∃ z, EV X c env z ∧ opD o' y z = some d) := by
  unfold eChain at h
  split at h
  · rename_i x hx
    split at h
    · rename_i y hy
      split at h
      · rename_i hb
        split at h
        · rename_i z hz
          exact ⟨x, y, true, (ih X sc top a env x ct hx).1, (ih X sc top b env y ct hy).1, hb, fun q => (by cases q), fun _ => ⟨z, (ih X sc top c env z ct hz).1, h⟩⟩
        · cases h
      · rename_i hb
        cases h
        exact ⟨x, y, false, (ih X sc top a env x ct hx).1, (ih X sc top b env y ct hy).1, hb, fun _ => rfl, fun q => (by cases q)⟩
      · cases h
    · cases h
  · cases h
theorem ev_chain {o o' : CmpOp} {q q' : Op} {a b c : Expr} {x y : D} {k : Bool} {pos : Pos} (ct : Ct X t sc F top) (h1 : cmpOf o = some q) (h2 : cmpOf o' = some q') (hm : lastMarks [o, o'] [b, c] = false) (ha : EV X a env x) (hb : EV X b env y)
    (hk : opD q x y = some (.bool k)) (hf : k = false → d = .bool false) (ht : k = true → ∃ z, EV X c env z ∧ opD q' y z = some d) : EV X (.Compare a [o, o'] [b, c] pos) env d := fun σ M H Q s mh post =>
  ⟨_, pe_chain op_w op_w pe_w pe_w pe_w hm, run_chain (serves_cmp ct h1) ha hb hk s mh (fun e w M1 H1 st s1 rw_ => by
    obtain ⟨z, hz, hd⟩ := ht e
    exact hz.run s1 st.mh fun u M2 H2 st2 s2 ru => serves_cmp ct h2 st2.mh (dp_mono st2.m _ _ rw_) ru hd ((post.step st).step st2).m) (fun e M1 H1 st => by
    have q := hf e
    subst q
    exact (post.step st).here st.mh (.bool_ _))⟩
theorem et_chain {o o' : CmpOp} {q q' : Op} {a b c : Expr} {x y : D} {k r : Bool} {pos : Pos} (ct : Ct X t sc F top) (h1 : cmpOf o = some q) (h2 : cmpOf o' = some q') (hm : lastMarks [o, o'] [b, c] = false) (ha : EV X a env x) (hb : EV X b env y)
    (hk : opD q x y = some (.bool k)) (hf : k = false → PyData.bool r = .bool false) (ht : k = true → ∃ z, EV X c env z ∧ opD q' y z = some (.bool r)) : EVT X (.Compare a [o, o'] [b, c] pos) env r := fun σ M H Q s mh post =>
  ⟨_, pt_chain op_w op_w pe_w pe_w pe_w hm, run_chain (Q := fun z H' => ∃ k, z = .bl k ∧ Q k H') (serves_cmp ct h1) ha hb hk s mh (fun e w M1 H1 st s1 rw_ => by
    obtain ⟨z, hz, hd⟩ := ht e
    exact hz.run s1 st.mh fun u M2 H2 st2 s2 ru => serves_cmp ct h2 st2.mh (dp_mono st2.m _ _ rw_) ru hd (show PostM X.K M2 H2 (.bool r) _ from fun v M3 H3 st3 rv => by
      cases rv
      exact ⟨r, rfl, post M3 H3 ((st.trans st2).trans st3)⟩)) (fun e M1 H1 st => by
    have q := hf e
    cases q
    exact ⟨false, rfl, post M1 H1 st⟩)⟩
theorem lc_of {n : Nat} {scope : Scope} {elt : Expr} {tt : DenT} {ifs : List Expr} {tgt : Tgt} {xs : List D} (ihE : IHE t F n) (ihT : IHT t F n) (ct : Ct X t sc F top) (htt : ∀ B : Blk X scope, ∀ env b, tt F env = some b → EVTs B.cx ifs env b)
    (own : List Nat) : ∀ x ∈ xs, ∀ r, lcTurn tgt own tt (denE t n (relS scope sc) elt) F env x = some r → TurnIs X scope ifs elt (wipeD env own) tgt x r := by
  intro x _ r h
  unfold lcTurn at h
  split at h
  · cases h
  · rename_i vs hv
    split at h
    · cases h
    · rename_i ht
      cases h
      exact ⟨vs, false, hv, fun B => htt B _ _ ht, fun _ => rfl, fun z => (by cases z)⟩
    · rename_i ht
      split at h
      · rename_i d hd
        cases h
        exact ⟨vs, true, hv, fun B => htt B _ _ ht, fun z => (by cases z), fun _ => ⟨d, rfl, fun B => (ihE B.cx _ false elt _ d (ct.blk B) hd).1⟩⟩
      · cases h
theorem ifs_of {n : Nat} {scope : Scope} (ihT : IHT t F n) (ct : Ct X t sc F top) : ∀ {ifs : List Expr} (B : Blk X scope), ∀ env b, oneT (ifs.map fun c => denT t n (relS scope sc) c) F env = some b → EVTs B.cx ifs env b
  | [], B, env, b, h => by
    cases h
    exact ets_nil
  | [c], B, env, b, h => ets_one (ihT B.cx _ false _ env b (ct.blk B) h)
  | _ :: _ :: _, B, env, b, h => by cases h
end
end PU
set_option backward.match.sparseCases false
namespace PU
open PySem PySem.Spec PyProof.Rows L2

section
variable {t : Tx} {F : List Sem1}
theorem len_own {N : List Str} {scope : Scope} {tgt : Tgt} (h : ownIn N scope tgt = true) : ∀ i ∈ tgt.ix, i ∈ (ownOf N scope).map (·.2) := by
  intro i hi
  unfold ownIn at h
  have h1 := List.all_eq_true.mp h i hi
  obtain ⟨p, hp, e⟩ := List.any_eq_true.mp h1
  exact List.mem_map.mpr ⟨p, hp, by simpa using e⟩
theorem e_call {n : Nat} {X : Cx} {sc : Scope} {top : Bool} {env : DE} {d : D} (ih : IHE t F n) (ct : Ct X t sc F top) {f : Str} {a : Expr} {es : List Expr} {p pos : Pos} {k : Nat} (hg : (gloK sc f && (a :: es).all noStar && plainN f) = true) (hk : ixOf f t.T = some k)
    (h : eCall k (dargs ((a :: es).map fun e => denE t n sc e)) F env = some d) : EVQ t F X (.Call (.Name f p) (a :: es) [] pos) env d := by
  rw [Bool.and_eq_true, Bool.and_eq_true] at hg
  unfold eCall at h
  split at h
  · rename_i ds hds
    split at h
    · rename_i s hs
      have c := ev_call (pos := pos) (p := p) (glo_of ct hg.1.1) (plainN_of hg.2).1 (ct.tab X (Alike.refl X) k f s (ixOf_get hk) hs) hg.1.2 (args_of ih ct hg.1.2 hds) h
      refine ⟨c.ev, fun z => ?_⟩
      have z : (match ixOf f t.T with | some k => Mk.call k | none => Mk.no).val F = true := z
      rw [hk] at z
      have z : (match F[k]? with | some s => s.fresh | none => false) = true := z
      rw [hs] at z
      have z : s.fresh = true := z
      unfold EVC PostX at c
      rw [z] at c
      exact c
    · cases h
  · cases h
theorem step_E {n : Nat} (ihE : IHE t F n) (ihT : IHT t F n) (ihI : IHI t F n) : IHE t F (n + 1) := by
  intro X sc top e env d ct h
  unfold denE at h
  split at h
  · -- a name
    rename_i x p
    have glob : (match gvOf t sc x with
        | some (.int i) => eC (.int i)
        | _ => eFail) F env = some d → EVQ t F X (.Name x p) env d := by
      intro h
      cases hg : gvOf t sc x with
      | none => rw [hg] at h; cases h
      | some g =>
        cases g with
        | tab kvs => rw [hg] at h; cases h
        | int i =>
          rw [hg] at h
          cases h
          obtain ⟨h1, h2, h3⟩ := gv_of ct hg
          exact EV.q (ev_gint h1 h2 h3) rfl
    cases hv : (visK sc x && plainN x) with
    | false =>
      rw [hv] at h
      exact glob h
    | true =>
      cases hi : ixOf x t.N with
      | none =>
        rw [hv, hi] at h
        exact glob h
      | some i =>
        rw [hv, hi] at h
        rw [Bool.and_eq_true] at hv
        have h : eVar i F env = some d := h
        unfold eVar at h
        split at h
        · rename_i d' he
          cases h
          refine EV.q ?_ rfl
          exact ev_var (by rw [ct.N]; exact ixOf_get hi) (vis_of ct hv.1) (plainN_of hv.2).1 (plainN_of hv.2).2 he
        · cases h
  · -- a constant
    rename_i c _ _
    cases hd : cstD c with
    | none => rw [hd] at h; cases h
    | some d' =>
      rw [hd] at h
      cases h
      exact EV.q (cst_of hd) rfl
  · rename_i a o b _
    cases ho : opOf o with
    | none => rw [ho] at h; cases h
    | some o' =>
      rw [ho] at h
      obtain ⟨x, y, h1, h2, h3⟩ := bin_of ihE ct h
      exact EVM.q (ev_bin (serves_op ct ho) h1 h2 h3)
  · rename_i a o b _
    cases htb : tabOf t sc b with
    | some kvs =>
      rw [htb] at h
      exact EV.q (cIn_of ihE ct htb h).1 rfl
    | none =>
     rw [htb] at h
     cases hm : behindInMarks o b with
     | true => simp only [hm] at h; cases h
     | false =>
      cases ho : cmpOf o with
      | none => simp only [hm, ho] at h; cases h
      | some o' =>
        simp only [hm, ho] at h
        obtain ⟨x, y, h1, h2, h3⟩ := bin_of ihE ct h
        exact EVM.q (ev_cmp (serves_cmp ct ho) hm h1 h2 h3)
  · rename_i a o o2 b c _
    cases hm : lastMarks [o, o2] [b, c] with
    | true => rw [hm] at h; cases h
    | false =>
      cases h1 : cmpOf o with
      | none => rw [hm, h1] at h; cases h
      | some q =>
        cases h2 : cmpOf o2 with
        | none => rw [hm, h1, h2] at h; cases h
        | some q' =>
          rw [hm, h1, h2] at h
          obtain ⟨x, y, k, g1, g2, g3, g4, g5⟩ := chain_of ihE ct h
          exact EV.q (ev_chain ct h1 h2 hm g1 g2 g3 g4 g5) rfl
  · unfold eNeg at h
    split at h
    · rename_i i hi
      cases h
      exact EV.q (ev_neg (ihE X sc top _ env _ ct hi).1) rfl
    · cases h
  · unfold eNot at h
    split at h
    · rename_i i hi
      cases h
      exact EV.q (ev_not (ihE X sc top _ env _ ct hi).1) rfl
    · cases h
  · exact EV.q (ands_of ihE ct h) rfl
  · exact EV.q (ors_of ihE ct h) rfl
  · unfold eIf at h
    split at h
    · rename_i ht
      exact EV.q (ev_ifT (ihT X sc top _ env _ ct ht) (ihE X sc top _ env _ ct h).1) rfl
    · rename_i ht
      exact EV.q (ev_ifF (ihT X sc top _ env _ ct ht) (ihE X sc top _ env _ ct h).1) rfl
    · cases h
  · split at h
    · rename_i hs
      unfold eTup at h
      split at h
      · rename_i ds hds
        split at h
        · rename_i hl
          cases h
          exact EV.q (ev_tup (args_of ihE ct hs hds) hl) rfl
        · cases h
      · cases h
    · cases h
  · split at h
    · rename_i hs
      unfold eLst at h
      split at h
      · rename_i ds hds
        split at h
        · rename_i hl
          cases h
          exact EVM.q (ev_lst (args_of ihE ct hs hds) hl)
        · cases h
      · cases h
    · cases h
  · unfold eRev at h
    split at h
    · rename_i xs hx
      cases h
      exact EVM.q (ev_rev (ihE X sc top _ env _ ct hx).1)
    · cases h
  · unfold eSl at h
    split at h
    · rename_i x hx
      split at h
      · rename_i l hl
        split at h
        · rename_i u hu
          exact EVM.q (ev_sl (ihE X sc top _ env _ ct hx).1 (opt_of ihE ct hl) (opt_of ihE ct hu) h)
        · cases h
      · cases h
    · cases h
  · rename_i k _ _ _ _
    split at h
    · cases h
    · rename_i hk
      unfold eStep at h
      split at h
      · rename_i x hx
        split at h
        · rename_i l hl
          split at h
          · rename_i u hu
            exact EVM.q (ev_step hk (ihE X sc top _ env _ ct hx).1 (opt_of ihE ct hl) (opt_of ihE ct hu) h)
          · cases h
        · cases h
      · cases h
  · rename_i a b p hb0 hb1 hb
    split at h
    · rename_i hp
      cases htb : tabOf t sc a with
      | some kvs =>
        rw [htb] at h
        replace h : eGetT kvs (denE t n sc b) F env = some d := h
        obtain ⟨x, px, l, rfl, h1, h2, h3, h4⟩ := tab_of ct htb
        cases hy : denE t n sc b F env with
        | none =>
          unfold eGetT at h
          rw [hy] at h
          cases h
        | some y =>
          unfold eGetT at h
          rw [hy] at h
          cases hk : isKey y with
          | false =>
            have h : (if isKey y = true then (kvs.find? fun p => keyEq (.str p.1) y).map (·.2) else none) = some d := h
            rw [hk] at h
            cases h
          | true =>
            have h : (if isKey y = true then (kvs.find? fun p => keyEq (.str p.1) y).map (·.2) else none) = some d := h
            rw [hk, if_pos rfl] at h
            obtain ⟨q0, hq, rfl⟩ := Option.map_eq_some_iff.mp h
            refine EV.q (ev_tabGet h1 h2 h3 h4 (ihE X sc top _ env _ ct hy).1 hk hq (plainIx_of hp)) ?_
            cases b <;> first | rfl | cases hp
      | none =>
      rw [htb] at h
      have h : eIx (denE t n sc a) (denE t n sc b) F env = some d := h
      unfold eIx at h
      split at h
      · rename_i x hx
        split at h
        · rename_i y hy
          refine EV.q (ev_ix ct.units (ihE X sc top _ env _ ct hx).1 (ihE X sc top _ env _ ct hy).1 h (plainIx_of hp)) ?_
          cases b <;> first | rfl | cases hp
        · cases h
      · cases h
    · cases h
  · -- a dict that is written out
    rename_i keys values _
    cases hd : dispOf keys values with
    | none => rw [hd] at h; cases h
    | some ks =>
      rw [hd] at h
      have h : (if ks ≠ [] ∧ ks.length ≤ 15 ∧ (ks.map (·.1)).Nodup then eC (dictD ks) else eFail) F env = some d := h
      split at h
      · rename_i hc
        cases h
        exact EV.q (ev_disp hd hc.1 hc.2.1 hc.2.2) rfl
      · cases h
  · -- a call
    rename_i f p a es pos
    cases hg : (gloK sc f && (a :: es).all noStar && plainN f) with
    | false => rw [hg] at h; cases h
    | true =>
      cases hk : ixOf f t.T with
      | some k =>
        rw [hg, hk] at h
        cases hsc : scArg a es with
        | none =>
          rw [hsc] at h
          exact e_call ihE ct hg hk h
        | some qs =>
          obtain ⟨elt, tg, iter, ifs, scope⟩ := qs
          rw [hsc] at h
          obtain ⟨lpos, rfl, rfl⟩ := scArg_eq hsc
          cases hf : (decide (f = "sorted") && t.B.contains f) with
          | false => simp only [hf] at h; cases h
          | true =>
            cases htg : tgtOf false t.N (relS scope sc) tg with
            | none => simp only [hf, htg] at h; cases h
            | some tgt =>
              cases hb : (blkC t.N sc scope (ownOf t.N scope) && noSet iter && ownIn t.N scope tgt) with
              | false => simp only [hf, htg, hb] at h; cases h
              | true =>
                simp only [hf, htg, hb] at h
                rw [Bool.and_eq_true, Bool.and_eq_true] at hb
                rw [Bool.and_eq_true] at hf
                have hsd := of_decide_eq_true hf.1
                subst hsd
                rw [Bool.and_eq_true, Bool.and_eq_true] at hg
                unfold eSortSc at h
                split at h
                · rename_i xs hxs
                  split at h
                  · rename_i hlen
                    split at h
                    · rename_i ys hys
                      unfold sortU at h
                      split at h
                      · rename_i zs hzs
                        split at h
                        · rename_i hzl
                          cases h
                          have hys' := hys
                          rw [intsU_eq hzs] at hys'
                          refine EVM.q (ev_sortsc (glo_of ct hg.1.1) (ct.bl _ (List.contains_iff_mem.mp hf.2)) ct.calm (by rw [ct.N]; exact ct.nd) (blkOk_by (own := ownOf t.N _) ?_) (noSet_of hb.1.2) (ihI X sc top _ _ env xs ct hxs) (fun B => tg_of (ct.blk B) htg) (len_own hb.2) hlen hzl (lc_of ihE ihT ct (ifs_of ihT ct) _) hys')
                          rw [ct.N, ct.sc]
                          exact hb.1.1
                        · cases h
                      · cases h
                    · cases h
                  · cases h
                · cases h
      | none =>
        rw [hg, hk] at h
        cases hf : decide (f = "isinstance") with
        | false => rw [hf] at h; cases h
        | true =>
          rw [hf] at h
          cases es with
          | nil => cases h
          | cons e1 r =>
            cases r with
            | cons _ _ => cases e1 <;> cases h
            | nil =>
              cases e1 <;> try (cases h; done)
              rename_i c p2
              have h : (match tyOf c, gloK sc c && t.B.contains f && t.B.contains c with
                | some T, true => eIsi T (denE t n sc a)
                | _, _ => eFail) F env = some d := h
              cases hT : tyOf c with
              | none => rw [hT] at h; cases h
              | some T =>
                cases hgl : (gloK sc c && t.B.contains f && t.B.contains c) with
                | false => rw [hT, hgl] at h; cases h
                | true =>
                  rw [hT, hgl] at h
                  have hh : eIsi T (denE t n sc a) F env = some d := h
                  have hf := of_decide_eq_true hf
                  rw [Bool.and_eq_true, Bool.and_eq_true] at hg hgl
                  have hc := tyOf_sn hT
                  subst hc
                  subst hf
                  cases hx : denE t n sc a F env with
                  | none =>
                    unfold eIsi at hh
                    rw [hx] at hh
                    cases hh
                  | some x =>
                    unfold eIsi at hh
                    rw [hx] at hh
                    have hnd : ∀ kvs, x ≠ .dict kvs := fun kvs z => by
                      subst z
                      cases hh
                    have hh : some (PyData.bool (isiD T x)) = some d := by
                      cases x <;> first | exact absurd rfl (hnd _) | exact hh
                    cases hh
                    have z := hg.1.2
                    rw [List.all_cons, Bool.and_eq_true] at z
                    refine EV.q (ev_isi (glo_of ct hg.1.1) (ct.bl _ (List.contains_iff_mem.mp hgl.1.2)) (glo_of ct hgl.1.1) (ct.bl _ (List.contains_iff_mem.mp hgl.2)) z.1 hnd (ihE X sc top _ env _ ct hx).1) ?_
                    show (match ixOf _ t.T with | some k => Mk.call k | none => Mk.no).val F = false
                    rw [hk]
                    rfl
  · -- a method of a text
    rename_i o m ap e cp
    split at h
    · rename_i hc
      rw [Bool.and_eq_true, Bool.and_eq_true] at hc
      by_cases hj : m = "join"
      · rw [if_pos hj] at h
        subst hj
        cases hx : denE t n sc o F env with
        | none => unfold eJoin at h; rw [hx] at h; cases h
        | some x =>
          cases hy : denE t n sc e F env with
          | none => unfold eJoin at h; rw [hx] at h; simp only [hy] at h; cases h
          | some y =>
            unfold eJoin at h
            rw [hx] at h
            simp only [hy] at h
            exact EV.q (ev_join hc.1.1 hc.1.2 hc.2 (ihE X sc top _ env _ ct hx).1 (ihE X sc top _ env _ ct hy).1 h) rfl
      · rw [if_neg hj] at h
        by_cases hj : m = "split"
        · rw [if_pos hj] at h
          subst hj
          cases hx : denE t n sc o F env with
          | none => unfold eSplit at h; rw [hx] at h; cases h
          | some x =>
            cases hy : denE t n sc e F env with
            | none => unfold eSplit at h; rw [hx] at h; simp only [hy] at h; cases h
            | some y =>
              unfold eSplit at h
              rw [hx] at h
              simp only [hy] at h
              exact EV.q (ev_split hc.1.1 hc.1.2 hc.2 (ihE X sc top _ env _ ct hx).1 (ihE X sc top _ env _ ct hy).1 h) rfl
        · rw [if_neg hj] at h
          cases h
    · cases h
  · rename_i o m ap cp
    split at h
    · rename_i hc
      rw [Bool.and_eq_true, Bool.and_eq_true] at hc
      have hm := of_decide_eq_true hc.2
      subst hm
      cases hx : denE t n sc o F env with
      | none => unfold eDec at h; rw [hx] at h; cases h
      | some x =>
        unfold eDec at h
        rw [hx] at h
        exact EV.q (ev_dec hc.1.1 hc.1.2 (ihE X sc top _ env _ ct hx).1 h) rfl
    · cases h
  · -- a comprehension
    rename_i elt tg iter ifs scope pos
    cases htg : tgtOf false t.N (relS scope sc) tg with
    | none => rw [htg] at h; cases h
    | some tgt =>
      cases hb : (blkC t.N sc scope (ownOf t.N scope) && noSet iter && ownIn t.N scope tgt) with
      | false => rw [htg] at h; simp only [hb] at h; cases h
      | true =>
          rw [htg] at h
          simp only [hb] at h
          rw [Bool.and_eq_true, Bool.and_eq_true] at hb
          have hall := hb.2
          unfold eLc at h
          split at h
          · rename_i xs hxs
            split at h
            · rename_i hlen
              split at h
              · rename_i ys hys
                cases h
                refine EVM.q (ev_lc ct.calm (by rw [ct.N]; exact ct.nd) (blkOk_by (own := ownOf t.N _) ?_) (noSet_of hb.1.2) (ihI X sc top _ _ env xs ct hxs) (fun B => tg_of (ct.blk B) htg) (len_own hall) hlen (lc_of ihE ihT ct (ifs_of ihT ct) _) hys)
                rw [ct.N, ct.sc]
                exact hb.1.1
              · cases h
            · cases h
          · cases h
  · cases h
theorem tB_of {a : Den} {env : DE} {b : Bool} (h : tB a F env = some b) : a F env = some (.bool b) := by
  unfold tB at h
  split at h
  · rename_i e
    cases h
    exact e
  · cases h
theorem val_of {n : Nat} {X : Cx} {sc : Scope} {top : Bool} {e : Expr} {env : DE} {b : Bool} (ihE : IHE t F n) (ct : Ct X t sc F top) (h : (if plainT e then tVal (denE t n sc e) else tFail) F env = some b) : EVT X e env b := by
  cases hp : plainT e with
  | false => rw [hp] at h; cases h
  | true =>
    rw [hp] at h
    have h : tVal (denE t n sc e) F env = some b := h
    unfold tVal at h
    split at h
    · rename_i x hx
      exact et_val (ihE X sc top e env x ct hx).1 h (plainT_of hp)
    · cases h
theorem step_T {n : Nat} (ihE : IHE t F n) (ihT : IHT t F n) : IHT t F (n + 1) := by
  intro X sc top e env b ct h
  unfold denT at h
  split at h
  · rename_i a o c _
    cases htb : tabOf t sc c with
    | some kvs =>
      rw [htb] at h
      have h := tB_of h
      exact (cIn_of ihE ct htb h).2 b rfl
    | none =>
     rw [htb] at h
     cases hm : behindInMarks o c with
     | true => simp only [hm] at h; cases h
     | false =>
      cases ho : cmpOf o with
      | none => simp only [hm, ho] at h; cases h
      | some o' =>
        simp only [hm, ho] at h
        obtain ⟨x, y, h1, h2, h3⟩ := bin_of ihE ct (tB_of h)
        exact et_cmp (serves_cmp ct ho) hm h1 h2 h3
  · rename_i a o o2 c c2 _
    cases hm : lastMarks [o, o2] [c, c2] with
    | true => rw [hm] at h; cases h
    | false =>
      cases h1 : cmpOf o with
      | none => rw [hm, h1] at h; cases h
      | some q =>
        cases h2 : cmpOf o2 with
        | none => rw [hm, h1, h2] at h; cases h
        | some q' =>
          rw [hm, h1, h2] at h
          obtain ⟨x, y, k, g1, g2, g3, g4, g5⟩ := chain_of ihE ct (tB_of h)
          exact et_chain ct h1 h2 hm g1 g2 g3 g4 g5
  · rename_i a _
    cases ha : denT t n sc a F env with
    | none =>
      unfold tNot at h
      rw [ha] at h
      cases h
    | some c =>
      unfold tNot at h
      rw [ha] at h
      cases h
      exact et_not (ihT X sc top a env c ct ha)
  · exact (tands_of ihT ct h).et
  · exact (tors_of ihT ct h).et
  · exact val_of ihE ct h
theorem seq_of {n : Nat} {X : Cx} {sc : Scope} {top : Bool} {tg e : Expr} {env : DE} {xs : List D} (ihE : IHE t F n) (ct : Ct X t sc F top) (h : iSeq (denE t n sc e) F env = some xs) : EVI X tg e env xs := by
  unfold iSeq at h
  split at h
  · rename_i ys hy
    cases h
    exact ei_list (ihE X sc top e env _ ct hy).1
  · rename_i ys hy
    cases h
    exact ei_tup (ihE X sc top e env _ ct hy).1
  · cases h
theorem step_I {n : Nat} (ihE : IHE t F n) : IHI t F (n + 1) := by
  intro X sc top tg e env xs ct h
  unfold denI at h
  split at h
  · rename_i f p a q
    cases hc : (decide (f = "range") && t.B.contains f && gloK sc f && noStar a) with
    | false =>
      rw [hc] at h
      exact seq_of ihE ct h
    | true =>
      rw [hc] at h
      rw [Bool.and_eq_true, Bool.and_eq_true, Bool.and_eq_true] at hc
      have hf := of_decide_eq_true hc.1.1.1
      subst hf
      have h : iRange1 (denE t n sc a) F env = some xs := h
      unfold iRange1 at h
      split at h
      · rename_i k hk
        split at h
        · rename_i hb
          cases h
          exact ei_range1 (glo_of ct hc.1.2) (ct.bl _ (List.contains_iff_mem.mp hc.1.1.2)) hc.2 (ihE X sc top a env _ ct hk).1 hb.1 hb.2
        · cases h
      · cases h
  · rename_i f p a b q
    cases hc : (decide (f = "range") && t.B.contains f && gloK sc f && noStar a && noStar b) with
    | true =>
      rw [hc] at h
      rw [Bool.and_eq_true, Bool.and_eq_true, Bool.and_eq_true, Bool.and_eq_true] at hc
      have hf := of_decide_eq_true hc.1.1.1.1
      subst hf
      have h : iRange2 (denE t n sc a) (denE t n sc b) F env = some xs := h
      unfold iRange2 at h
      split at h
      · rename_i lo hlo
        split at h
        · rename_i k hk
          split at h
          · rename_i hb
            cases h
            exact ei_range2 (glo_of ct hc.1.1.2) (ct.bl _ (List.contains_iff_mem.mp hc.1.1.1.2)) hc.1.2 hc.2 (ihE X sc top a env _ ct hlo).1 (ihE X sc top b env _ ct hk).1 hb.1 hb.2.1 hb.2.2.1 hb.2.2.2
          · cases h
        · cases h
      · cases h
    | false =>
      rw [hc] at h
      cases hz : (decide (f = "zip") && t.B.contains f && gloK sc f && noStar a && noStar b) with
      | false =>
        rw [hz] at h
        exact seq_of ihE ct h
      | true =>
        rw [hz] at h
        cases tg <;> first | exact seq_of ihE ct h | skip
        rw [Bool.and_eq_true, Bool.and_eq_true, Bool.and_eq_true, Bool.and_eq_true] at hz
        have hf := of_decide_eq_true hz.1.1.1.1
        subst hf
        have h : iZip (denE t n sc a) (denE t n sc b) F env = some xs := h
        unfold iZip at h
        split at h
        · rename_i ys hy
          obtain ⟨dy, hy, hy2⟩ := Option.bind_eq_some_iff.mp hy
          split at h
          · rename_i zs hzs
            obtain ⟨dz, hzs, hz2⟩ := Option.bind_eq_some_iff.mp hzs
            cases h
            intro σ M H R s mh q
            have kd : ∀ {d : D} {ds : List D}, seqD d = some ds → ∃ (t : Bool), (∀ {M : Hp} {v : V}, Rp X.K M v d → ∃ a vs, v = .ref a ∧ SqB t X.K M a vs ∧ RpA X.K M vs ds) := by
              intro d ds h
              cases d <;> first | (cases h; done) | skip
              · cases h
                refine ⟨false, fun r => ?_⟩
                cases r with
                | list_ h r => exact ⟨_, _, rfl, .inl h, r⟩
              · cases h
                refine ⟨true, fun r => ?_⟩
                cases r with
                | tuple_ h r => exact ⟨_, _, rfl, h, r⟩
            obtain ⟨t1, k1⟩ := kd hy2
            obtain ⟨t2, k2⟩ := kd hz2
            refine ⟨_, pi_zipB t1 t2 (glo_of ct hz.1.1.2) (ct.bl _ (List.contains_iff_mem.mp hz.1.1.1.2)) (pa_cons pe_w (pa_cons pe_w pa_nil (star_cons hz.2)) (star_cons hz.1.2)) (star_cons hz.1.2) (by rw [star_cons hz.2]; rfl), ?_⟩
            refine (ihE X sc top a env _ ct hy).1.run s mh fun v M1 H1 st s1 r => ?_
            refine (ihE X sc top b env _ ct hzs).1.run s1 st.mh fun w M2 H2 st2 s2 r2 => ?_
            obtain ⟨l1, vs1, rfl, g1, ra⟩ := k1 (dp_mono st2.m _ _ r)
            obtain ⟨l2, vs2, rfl, g2, rb⟩ := k2 r2
            exact ⟨_, _, _, _, rfl, sqB_mono st2.mh g1, sqB_mono st2.mh g2, q _ M2 H2 (st.trans st2) (walks_zipB g1 ra g2 rb)⟩
          · cases h
        · cases h
  · exact seq_of ihE ct h
theorem all_of : ∀ n : Nat, IHE t F n ∧ IHT t F n ∧ IHI t F n
  | 0 => ⟨fun _ _ _ _ _ _ _ h => (nomatch h), fun _ _ _ _ _ _ _ h => (nomatch h), fun _ _ _ _ _ _ _ _ h => (nomatch h)⟩
  | n + 1 =>
    let ⟨a, b, c⟩ := all_of n
    ⟨step_E a b c, step_T a b, step_I a⟩
end
end PU
set_option backward.match.sparseCases false
namespace PU
open PySem PySem.Spec PyProof.Rows L2

section
variable {t : Tx} {F : List Sem1} {X : Cx} {sc : Scope} {env : SE} {r : Fl} {big : Nat}
theorem base_name {n : Str} {m : Str} {p : Pos} {E : Env} : attributeBase (.Name n p) m E (eval (.Name n p) E) = eval (.Name n p) E := rfl
theorem slot_of (ct : Ct X t sc F true) {x : Str} {i : Nat} (h : slot t sc x = some i) : X.N[i]? = some x ∧ Vis X.env.scope x ∧ (x == ("__debug__" : Str)) = false ∧ (x == ("__classdict__" : Str)) = false := by
  unfold slot at h
  split at h
  · rename_i hv
    rw [Bool.and_eq_true] at hv
    exact ⟨by rw [ct.N]; exact ixOf_get h, vis_of ct hv.1, (plainN_of hv.2).1, (plainN_of hv.2).2⟩
  · cases h
theorem noSwap {e : Expr} {o : Option Expr} {l : Nat} {E : Env} (h : isLc e = false) : swapsWith e o l E = pure false := by
  cases e <;> first | rfl | cases h
theorem noSwapS {e tg : Expr} {l : Nat} {E : Env} (h : isLc e = false) : swapsWithSole [tg] e l E = pure false := noSwap h
theorem noStores {e : Expr} {es : List Expr} {k : Nat} {p : Pos} {E : Env} (h : isTup e = false) : swappedStores [.Tuple es k p] e E = pure none := by
  cases e <;> first | rfl | cases h
theorem noStoresI {e a b : Expr} {p : Pos} {E : Env} : swappedStores [.Subscript a b p] e E = pure none := by
  cases e <;> rfl
theorem plainAssign {a b : Expr} {sp : Pos} {E : Env} (h : plainIx b = true) (v : Value) : assign (.Subscript a b sp) E v = (do
      let ov ← holding [v] (eval a E)
      let iv ← holding [v, ov] (eval b E)
      standAt sp
      holding [v, ov, iv] (setItem ov iv v)
      release [v, ov, iv] []) := by
  cases b <;> first | rfl | cases h
def eE (t : Tx) (F : List Sem1) : IHE t F 40 := (all_of 40).1
def eT (t : Tx) (F : List Sem1) : IHT t F 40 := (all_of 40).2.1
def eI (t : Tx) (F : List Sem1) : IHI t F 40 := (all_of 40).2.2
theorem retV_ok {e : Expr} {d : D} {pos : Pos} (h : EVQ t F X e (thawS env) d) : SOK X (.Return (some e) pos) env (retV ((mkOf t e).val F) d) := by
  cases hm : (mkOf t e).val F with
  | false =>
    have e1 : retV false d = .ret d false := by cases d <;> rfl
    rw [e1]
    exact s_ret h.1
  | true =>
    cases d <;> first | exact s_ret h.1 | exact s_retF (h.2 hm)
theorem asgV_ok {e : Expr} {d : D} {x : Str} {p pos : Pos} {i : Nat} (ct : Ct X t sc F true) (hs : stoK true sc x = true) (hi : ixOf x t.N = some i) (hl : isLc e = false) (h : EVQ t F X e (thawS env) d) :
    SOK X (.Assign [.Name x p] e pos) env (.nx (asgV ((mkOf t e).val F) i d env)) := by
  obtain ⟨h1, h2⟩ := sto_of ct hs
  have nd : X.N.Nodup := by rw [ct.N]; exact ct.nd
  have hi' : X.N[i]? = some x := by rw [ct.N]; exact ixOf_get hi
  cases hm : (mkOf t e).val F with
  | false =>
    have e1 : asgV false i d env = (aft (flat d) env).set i (some (.d d)) := by cases d <;> rfl
    rw [e1]
    exact s_asg nd hi' h1 h2 (noSwap hl) h.1
  | true =>
    cases d <;> first | exact s_asg nd hi' h1 h2 (noSwap hl) h.1 | exact s_asgF nd hi' h1 h2 (noSwap hl) (h.2 hm)
theorem lc_asg {x : Str} {p pos : Pos} {i : Nat} {elt tg iter : Expr} {ifs : List Expr} {scope : Scope} {lpos : Pos} {d : D} (ct : Ct X t sc F true) (hi : ixOf x t.N = some i) (hsw : lcSwap sc x p (.ListComp elt [⟨tg, iter, ifs, 0⟩] scope lpos) = true)
    (h : denE t 40 sc (.ListComp elt [⟨tg, iter, ifs, 0⟩] scope lpos) F (thawS env) = some d) : SOK X (.Assign [.Name x p] (.ListComp elt [⟨tg, iter, ifs, 0⟩] scope lpos) pos) env (.nx (asgV true i d env)) := by
  have h : (match tgtOf false t.N (relS scope sc) tg with
    | none => eFail
    | some tgt => match blkC t.N sc scope (ownOf t.N scope) && noSet iter && ownIn t.N scope tgt with
      | true => eLc ((ownOf t.N scope).map fun (p : Str × Nat) => p.2) tgt (denI t 39 sc tg iter) (oneT (ifs.map fun c => denT t 39 (relS scope sc) c)) (denE t 39 (relS scope sc) elt)
      | false => eFail) F (thawS env) = some d := h
  cases htg : tgtOf false t.N (relS scope sc) tg with
  | none => rw [htg] at h; cases h
  | some tgt =>
    cases hb : (blkC t.N sc scope (ownOf t.N scope) && noSet iter && ownIn t.N scope tgt) with
    | false => rw [htg] at h; simp only [hb] at h; cases h
    | true =>
      rw [htg] at h
      simp only [hb] at h
      rw [Bool.and_eq_true, Bool.and_eq_true] at hb
      unfold eLc at h
      split at h
      · rename_i xs hxs
        split at h
        · rename_i hlen
          split at h
          · rename_i ys hys
            cases h
            have hsw : (true && sc.names.lookup x == some .local && p.line == lpos.line && !(scope.names.any fun (n, k) => n == x && (k == .local || k == .cell))) = true := hsw
            rw [Bool.true_and, Bool.and_eq_true, Bool.and_eq_true] at hsw
            have hloc : sc.names.lookup x = some .local := by simpa using hsw.1.1
            obtain ⟨ihE, ihT, ihI⟩ := all_of (t := t) (F := F) 39
            refine s_asgLc ct.calm (by rw [ct.N]; exact ct.nd) (by rw [ct.N]; exact ixOf_get hi) (by rw [ct.sc]; exact hloc) ?_ (blkOk_by (own := ownOf t.N _) ?_) (noSet_of hb.1.2) (ihI X sc true _ _ _ xs ct hxs) (fun B => tg_of (ct.blk B) htg) (len_own hb.2) hlen (lc_of ihE ihT ct (ifs_of ihT ct) _) hys
            · exact sw_true (ct.kind rfl) (by rw [ct.sc]; exact hloc) hsw.1.2 (by simpa using hsw.2)
            · rw [ct.N, ct.sc]
              exact hb.1.1
          · cases h
        · cases h
      · cases h
theorem lc_any {x : Str} {p pos : Pos} {i : Nat} {e : Expr} {d : D} (ct : Ct X t sc F true) (hi : ixOf x t.N = some i) (hsw : lcSwap sc x p e = true) (h : denE t 40 sc e F (thawS env) = some d) : SOK X (.Assign [.Name x p] e pos) env (.nx (asgV ((mkOf t e).val F) i d env)) := by
  match e, hsw, h with
  | .ListComp elt [⟨tg, iter, ifs, a⟩] scope lpos, hsw, h =>
    have ha : a = 0 := by
      have z : (decide (a = 0) && sc.names.lookup x == some .local && p.line == lpos.line && !(scope.names.any fun (n, k) => n == x && (k == .local || k == .cell))) = true := hsw
      rw [Bool.and_eq_true, Bool.and_eq_true, Bool.and_eq_true] at z
      exact of_decide_eq_true z.1.1.1
    subst ha
    exact lc_asg ct hi hsw h
def IHS (t : Tx) (big : Nat) (F : List Sem1) (n : Nat) : Prop := (∀ X sc (s : Stmt) env r, Ct X t sc F true → denS t big sc n s F env = some r → SOK X s env r) ∧ (∀ X sc (s : List Stmt) env r, Ct X t sc F true → denSs t big sc n s F env = some r → SsOK X s env r)
theorem step_Ss {n : Nat} (ih : IHS t big F n) : ∀ X sc (s : List Stmt) env r, Ct X t sc F true → denSs t big sc (n + 1) s F env = some r → SsOK X s env r := by
  intro X sc s env r ct h
  cases s with
  | nil =>
    cases h
    exact ss_nil
  | cons s rest =>
    have h : sSeq (denS t big sc n s) (denSs t big sc n rest) F env = some r := h
    unfold sSeq at h
    split at h
    · rename_i e1 h1
      exact ss_go (ih.1 X sc s env _ ct h1) (ih.2 X sc rest e1 r ct h)
    · rename_i h1
      have g := ih.1 X sc s env r ct h
      cases r with
      | nx e => exact absurd h (h1 e)
      | ret d fr => exact ss_ret g
      | brk e => exact ss_brk g
      | ct e => exact ss_ct g
theorem slots_of (ct : Ct X t sc F true) : ∀ {es : List Expr} {js : List Nat}, slotsN t sc es = some js → NamesR X es js
  | [], js, h => by
    cases h
    exact trivial
  | e :: es, js, h => by
    cases e <;> first | (cases h; done) | skip
    rename_i x p
    unfold slotsN at h
    split at h
    · rename_i j r hs hr
      cases h
      exact ⟨⟨x, p, rfl, slot_of ct hs⟩, slots_of ct hr⟩
    · cases h
theorem isOwn_of {o : Option (Option Sv)} (h : isOwn o = true) : ∃ xs, o = some (some (.own xs)) := by
  cases o with
  | none => cases h
  | some o =>
    cases o with
    | none => cases h
    | some v =>
      cases v with
      | d x => cases h
      | own xs => exact ⟨xs, rfl⟩
      | ownK ks => cases h
theorem al_ok {bd : List Sem1 → SE → Option AR} {els : DenS} {x : Str} {p lp pos : Pos} {es : List Expr} {js : List Nat} {i : Nat} {body : List Stmt} {env : SE} {r : Fl} (ct : Ct X t sc F true) (hs : stoK true sc x = true) (hi : ixOf x t.N = some i) (hj : slotsN t sc es = some js)
    (hb : ∀ env r, bd F env = some r → BodyOk X body i env r) (hels : els F env = some r → SOK X (.For (.Name x p) (.List es lp) body [] pos) env r) (h : sForAl js i bd els F env = some r) : SOK X (.For (.Name x p) (.List es lp) body [] pos) env r := by
  unfold sForAl at h
  split at h
  · rename_i hc
    obtain ⟨c1, c2, c3, c4⟩ := hc
    have nd : X.N.Nodup := by rw [ct.N]; exact ct.nd
    have hi' : X.N[i]? = some x := by rw [ct.N]; exact ixOf_get hi
    exact s_forA ct.pass ct.calm nd ⟨x, p, rfl, hi', sto_of ct hs⟩ (slots_of ct hj) (fun j hm => by have := List.all_eq_true.mp c2 j hm; simpa using this) (fun j hm => isOwn_of (List.all_eq_true.mp c1 j hm)) c4 c3 hb h
  · exact hels h
theorem alDen_ok {bd base : DenS} {tg iter : Expr} {body : List Stmt} {pos : Pos} {env : SE} {r : Fl} (ct : Ct X t sc F true) (hbd : ∀ env r, bd F env = some r → SsOK X body env r) (hbase : base F env = some r → SOK X (.For tg iter body [] pos) env r)
    (h : alDen t sc tg iter body bd base F env = some r) : SOK X (.For tg iter body [] pos) env r := by
  unfold alDen at h
  split at h
  · rename_i x p es lp
    split at h
    · rename_i i js hs hi hj
      split at h
      · rename_i c a q
        refine al_ok ct hs hi hj (fun env r hb => ?_) hbase h
        unfold bLook at hb
        split at hb
        · rename_i xs hx ht
          cases hb
          exact body_look (eT t F X sc true c _ false ct ht) hx
        · split at hb
          · rename_i d fr hr
            cases hb
            exact hbd _ _ hr
          · cases hb
        · cases hb
      · rename_i y yp m ap e cp q
        split at h
        · rename_i k hk hc
          rw [Bool.and_eq_true, Bool.and_eq_true, Bool.and_eq_true] at hc
          have hy := of_decide_eq_true hc.1.2
          have hm := of_decide_eq_true hc.2
          subst hy
          subst hm
          refine al_ok ct hs hi hj (fun env r hb => ?_) hbase h
          unfold bPush at hb
          split at hb
          · rename_i xs d hx hd
            split at hb
            · rename_i hf
              cases hb
              obtain ⟨h1, h2, h3, h4⟩ := slot_of ct hk
              have hi' : X.N[i]? = some y := by rw [ct.N]; exact ixOf_get hi
              exact body_push hi' h2 h3 h4 base_name hc.1.1.1 hc.1.1.2 hx (eE t F X sc true e _ _ ct hd).1 hf.1 hf.2
            · cases hb
          · cases hb
        · exact hbase h
      · exact hbase h
    · exact hbase h
  · exact hbase h
theorem step_S {n : Nat} (ih : IHS t big F n) : ∀ X sc (s : Stmt) env r, Ct X t sc F true → denS t big sc (n + 1) s F env = some r → SOK X s env r := by
  intro X sc s env r ct h
  unfold denS at h
  split at h
  · cases h; exact s_pass
  · cases h; exact s_brk
  · cases h; exact s_ct
  · cases h; exact s_retN
  · -- return x
    rename_i x p pos
    cases hs : slot t sc x with
    | none => rw [hs] at h; cases h
    | some i =>
      rw [hs] at h
      obtain ⟨h1, h2, h3, h4⟩ := slot_of ct hs
      have h : sRetV i F env = some r := h
      unfold sRetV at h
      split at h
      · rename_i xs hx
        cases h
        exact s_retOwn h1 h2 h3 h4 hx
      · rename_i d hx
        cases h
        refine s_ret (ev_var h1 h2 h3 h4 ?_)
        unfold thawS
        rw [List.getElem?_map, hx]
        rfl
      · cases h
  · -- return e
    rename_i e pos _
    have h : sRet (mkOf t e) (denE t 40 sc e) F env = some r := h
    unfold sRet at h
    split at h
    · rename_i d hd
      cases h
      exact retV_ok (eE t F X sc true e _ d ct hd)
    · cases h
  · cases h; exact s_doc
  · -- one argument: append, extend
    rename_i x p m ap e cp pos
    cases hs : slot t sc x with
    | none => rw [hs] at h; cases h
    | some i =>
      cases hc : (ap.endLine == cp.line && noStar e) with
      | false => rw [hs, hc] at h; cases h
      | true =>
        rw [hs, hc] at h
        rw [Bool.and_eq_true] at hc
        obtain ⟨h1, h2, h3, h4⟩ := slot_of ct hs
        have h : (if m = "append" then sApp i (denE t 40 sc e) else if m = "extend" then sExt i (mkOf t e) (denE t 40 sc e) else sFail) F env = some r := h
        by_cases hm : m = "append"
        · rw [if_pos hm] at h
          have hh : sApp i (denE t 40 sc e) F env = some r := h
          subst hm
          unfold sApp at hh
          split at hh
          · rename_i xs hx
            split at hh
            · rename_i d hd
              split at hh
              · rename_i hf
                cases hh
                exact s_append h1 h2 h3 h4 base_name hc.1 hc.2 hx (eE t F X sc true e _ d ct hd).1 hf.1 hf.2
              · cases hh
            · cases hh
          · cases hh
        · rw [if_neg hm] at h
          by_cases hm : m = "extend"
          · rw [if_pos hm] at h
            have hh : sExt i (mkOf t e) (denE t 40 sc e) F env = some r := h
            subst hm
            unfold sExt at hh
            split at hh
            · rename_i xs hx
              split at hh
              · rename_i ys hd
                split at hh
                · rename_i hf
                  cases hh
                  exact s_extend h1 h2 h3 h4 base_name hc.1 hc.2 hx ((eE t F X sc true e _ _ ct hd).2 hf.1) hf.2.1 hf.2.2
                · cases hh
              · cases hh
            · cases hh
          · rw [if_neg hm] at h
            cases h
  · -- insert
    rename_i x p m ap a e cp pos
    cases hs : slot t sc x with
    | none => rw [hs] at h; cases h
    | some i =>
      cases hc : (ap.endLine == cp.line && noStar a && noStar e && decide (m = "insert")) with
      | false => rw [hs, hc] at h; cases h
      | true =>
        rw [hs, hc] at h
        rw [Bool.and_eq_true, Bool.and_eq_true, Bool.and_eq_true] at hc
        obtain ⟨h1, h2, h3, h4⟩ := slot_of ct hs
        have hm := of_decide_eq_true hc.2
        subst hm
        have h : sIns i (denE t 40 sc a) (denE t 40 sc e) F env = some r := h
        unfold sIns at h
        split at h
        · rename_i xs hx
          split at h
          · rename_i j hj
            split at h
            · rename_i d hd
              split at h
              · rename_i hf
                cases h
                exact s_insert h1 h2 h3 h4 base_name hc.1.1.1 hc.1.1.2 hc.1.2 hx (eE t F X sc true a _ _ ct hj).1 (eE t F X sc true e _ _ ct hd).1 hf.1 hf.2.1 hf.2.2.1 hf.2.2.2
              · cases h
            · cases h
          · cases h
        · cases h
  · -- clear
    rename_i x p m ap cp pos
    cases hs : slot t sc x with
    | none => rw [hs] at h; cases h
    | some i =>
      cases hc : (ap.endLine == cp.line && decide (m = "clear")) with
      | false => rw [hs, hc] at h; cases h
      | true =>
        rw [hs, hc] at h
        rw [Bool.and_eq_true] at hc
        obtain ⟨h1, h2, h3, h4⟩ := slot_of ct hs
        have hm := of_decide_eq_true hc.2
        subst hm
        have h : sClr i F env = some r := h
        unfold sClr at h
        split at h
        · rename_i xs hx
          cases h
          exact s_clear h1 h2 h3 h4 base_name hc.1 hx
        · cases h
  · -- x = {}
    rename_i x p dp pos
    cases hs : stoK true sc x with
    | false => rw [hs] at h; cases h
    | true =>
      cases hi : ixOf x t.N with
      | none => rw [hs, hi] at h; cases h
      | some i =>
        rw [hs, hi] at h
        cases h
        obtain ⟨h1, h2⟩ := sto_of ct hs
        exact s_newK (by rw [ct.N]; exact ct.nd) (by rw [ct.N]; exact ixOf_get hi) h1 h2
  · -- x = e
    rename_i x p e pos _
    cases hs : stoK true sc x with
    | false => rw [hs] at h; cases h
    | true =>
      cases hi : ixOf x t.N with
      | none => rw [hs, hi] at h; cases h
      | some i =>
        rw [hs, hi] at h
        have h : (if (isLc e && !lcSwap sc x p e) = true then sFail else sAsg i (mkOf t e) (denE t 40 sc e)) F env = some r := h
        cases hl : isLc e with
        | false =>
          rw [hl, Bool.false_and, if_neg Bool.false_ne_true] at h
          unfold sAsg at h
          split at h
          · rename_i d hd
            cases h
            exact asgV_ok ct hs hi hl (eE t F X sc true e _ d ct hd)
          · cases h
        | true =>
          cases hsw : lcSwap sc x p e with
          | false =>
            rw [hl, hsw] at h
            cases h
          | true =>
            rw [hl, hsw] at h
            have h : sAsg i (mkOf t e) (denE t 40 sc e) F env = some r := h
            unfold sAsg at h
            split at h
            · rename_i d hd
              cases h
              exact lc_any ct hi hsw hd
            · cases h
  · -- a, b = e
    rename_i es k q e pos
    cases hst : starOf t sc es with
    | some ij =>
      obtain ⟨is, j⟩ := ij
      rw [hst] at h
      have h : (if (!isTup e && !isLc e) = true then sStar is j (denE t 40 sc e) else sFail) F env = some r := h
      split at h
      · rename_i hc
        rw [Bool.and_eq_true] at hc
        have h1 : isTup e = false := by simpa using hc.1
        have h2 : isLc e = false := by simpa using hc.2
        unfold sStar at h
        split at h
        · rename_i d hd
          split at h
          · rename_i ds hds
            split at h
            · rename_i hl
              cases h
              exact s_asgStar ct.calm (by rw [ct.N]; exact ct.nd) (stars_of ct hst) (noSwapS h2) (noStores h1) (eE t F X sc true e _ d ct hd).1 hds hl.1 hl.2
            · cases h
          · cases h
        · cases h
      · cases h
    | none =>
    rw [hst] at h
    cases ht : tgtOf true t.N sc (.Tuple es k q) with
    | none => simp only [ht] at h; cases h
    | some tgt =>
      cases hc : (!isTup e && !isLc e) with
      | false => simp only [ht, hc] at h; cases h
      | true =>
        simp only [ht, hc] at h
        rw [Bool.and_eq_true] at hc
        have h1 : isTup e = false := by simpa using hc.1
        have h2 : isLc e = false := by simpa using hc.2
        have h : sAsgT tgt (denE t 40 sc e) F env = some r := h
        unfold sAsgT at h
        split at h
        · rename_i d hd
          split at h
          · rename_i ds hds
            cases h
            exact s_asgT (tg_of ct ht) (noSwapS h2) (noStores h1) rfl (eE t F X sc true e _ d ct hd).1 hds
          · cases h
        · cases h
  · -- x[b] = e
    rename_i x p b sp e pos
    cases hs : slot t sc x with
    | none => rw [hs] at h; cases h
    | some i =>
      cases hc : (plainIx b && !isLc e) with
      | false => rw [hs, hc] at h; cases h
      | true =>
        rw [hs, hc] at h
        rw [Bool.and_eq_true] at hc
        have h2' : isLc e = false := by simpa using hc.2
        obtain ⟨h1, h2, h3, h4⟩ := slot_of ct hs
        have h : sItem i (denE t 40 sc b) (denE t 40 sc e) F env = some r := h
        unfold sItem at h
        split at h
        · rename_i xs hx
          split at h
          · rename_i d hd
            split at h
            · rename_i j hj
              split at h
              · rename_i m hm
                split at h
                · rename_i hf
                  cases h
                  exact s_item h1 h2 h3 h4 (fun v => plainAssign hc.1 v) (noSwapS h2') noStoresI hx (eE t F X sc true e _ d ct hd).1 hf (eE t F X sc true b _ _ ct hj).1 hm
                · cases h
              · cases h
            · cases h
          · cases h
        · rename_i ks hx
          split at h
          · rename_i d hd
            split at h
            · rename_i kk hk
              obtain ⟨y, hy, hk⟩ := Option.bind_eq_some_iff.mp hk
              split at h
              · rename_i hf
                cases h
                exact s_putK ct.units h1 h2 h3 h4 (noSwap h2') hx (eE t F X sc true e _ d ct hd).1 hf.1 (eE t F X sc true b _ _ ct hy).1 hk hf.2
              · cases h
            · cases h
          · cases h
        · cases h
  · -- x += e
    rename_i x p o e pos
    cases hs : stoK true sc x with
    | false => rw [hs] at h; cases h
    | true =>
      cases hi : ixOf x t.N with
      | none => rw [hs, hi] at h; cases h
      | some i =>
        rw [hs, hi] at h
        obtain ⟨h1, h2⟩ := sto_of ct hs
        have nd : X.N.Nodup := by rw [ct.N]; exact ct.nd
        have hi' : X.N[i]? = some x := by rw [ct.N]; exact ixOf_get hi
        have go : ∀ (q : AOp), PIp X o (ipI q.f) → sAug i q (denE t 40 sc e) F env = some r → SOK X (.AugAssign (.Name x p) o e pos) env r := by
          intro q hp h
          unfold sAug at h
          split at h
          · rename_i a ha
            split at h
            · rename_i b hb
              cases h
              exact s_aug hp nd hi' h1 h2 ha (eE t F X sc true e _ _ ct hb).1
            · cases h
          · cases h
        cases o <;> first | (cases h; done) | exact go .add ip_add h | exact go .sub ip_sub h
  · -- if
    rename_i c a b pos
    have h : sIf (denT t 40 sc c) (denSs t big sc n a) (denSs t big sc n b) F env = some r := h
    unfold sIf at h
    split at h
    · rename_i hc
      exact s_if (eT t F X sc true c _ true ct hc) (ih.2 X sc a env r ct h)
    · rename_i hc
      exact s_if (eT t F X sc true c _ false ct hc) (ih.2 X sc b env r ct h)
    · cases h
  · -- for
    rename_i tg iter body pos
    have h : alDen t sc tg iter body (denSs t big sc n body) (match tgtOf true t.N sc tg, noSet iter with
      | some tgt, true => if isNew iter = true then sForN (mkOf t iter) tgt (denE t 40 sc iter) (denSs t big sc n body) else sFor (slotsOf t 40 iter) tgt (denI t 40 sc tg iter) (denSs t big sc n body)
      | _, _ => sFail) F env = some r := h
    refine alDen_ok ct (fun env r hb => ih.2 X sc body env r ct hb) (fun h => ?_) h
    cases ht : tgtOf true t.N sc tg with
    | none => rw [ht] at h; cases h
    | some tgt =>
      cases hn : noSet iter with
      | false => rw [ht, hn] at h; cases h
      | true =>
        rw [ht, hn] at h
        have h : (if isNew iter = true then sForN (mkOf t iter) tgt (denE t 40 sc iter) (denSs t big sc n body) else sFor (slotsOf t 40 iter) tgt (denI t 40 sc tg iter) (denSs t big sc n body)) F env = some r := h
        cases ha : isNew iter with
        | true =>
          rw [ha, if_pos rfl] at h
          unfold sForN at h
          split at h
          · rename_i xs hm hxs
            split at h
            · rename_i hfl
              exact s_forN ct.pass ct.calm (noSet_of hn) ((eE t F X sc true iter _ _ ct hxs).2 hm) hfl (tg_of ct ht) (fun env r hb => ih.2 X sc body env r ct hb) h
            · cases h
          · cases h
        | false =>
          rw [ha, if_neg Bool.false_ne_true] at h
          unfold sFor at h
          split at h
          · rename_i xs hxs
            exact s_for ct.pass ct.calm (noSet_of hn) (eI t F X sc true tg iter _ xs ct hxs) (tg_of ct ht) (fun env r hb => ih.2 X sc body env r ct hb) h
          · cases h
  · -- while
    rename_i c body pos
    have h : sWhile big (denT t 40 sc c) (denSs t big sc n body) F env = some r := h
    exact s_while ct.pass (fun env b hb => eT t F X sc true c _ b ct hb) (fun env r hb => ih.2 X sc body env r ct hb) h
  · cases h
theorem all_S : ∀ n : Nat, IHS t big F n
  | 0 => ⟨fun _ _ _ _ _ _ h => (nomatch h), fun _ _ _ _ _ _ h => (nomatch h)⟩
  | n + 1 => ⟨step_S (all_S n), step_Ss (all_S n)⟩
end
end PU
set_option backward.match.sparseCases false
namespace PU
open PySem PySem.Spec PyProof.Rows L2

def outD (fresh : Bool) : Option Fl → Option D
  | some (.ret d fr) => match fresh, d, fr with
    | true, .list _, false => none
    | _, _, _ => some d
  | some (.nx _) => some .none
  | _ => none
def env0 (m : Nat) (ds : List D) : SE := ds.map (fun d => some (.d d)) ++ List.replicate (m - ds.length) none
def runD (fresh : Bool) (ps m : Nat) (body : DenS) (F : List Sem1) (ds : List D) : Option D := if ds.length = ps then outD fresh (body F (env0 m ds)) else none
/-- what the callees are worth, at every context of this text -/
def Lib (P : Program) (w : World) (K : PySem.W.Frag) (mg : Str → Option Value) (base : Heap) (k : Nat) (T : List Str) (F : List Sem1) : Prop :=
  ∀ X : Cx, X.prog = P → X.w = w → X.K = K → X.mg = mg → X.base = base → X.calm = true → Room k X.A → ∀ (j : Nat) (x : Str) (s : Sem1), T[j]? = some x → F[j]? = some s → CallOk X x s
def spS (K : PySem.W.Frag) (s : Sem1) (n : Nat) : Sp := fun vs H Q _ => vs.length = n ∧ rSem K s vs H Q
section
variable {P : Program} {w : World} {K : PySem.W.Frag} {mg : Str → Option Value} {base : Heap}
theorem outD_end {fresh : Bool} {r : Fl} {d : D} {M0 H0 : Hp} {Q : VK} (h : outD fresh (some r) = some d) (q : PostX fresh K M0 H0 d Q) : EndOk K M0 H0 r { nx := fun _ H' => Q .non H', rt := Q } := by
  cases r with
  | nx env =>
    cases h
    intro M H σ s
    cases fresh with
    | true => exact (show Post K M0 H0 .none Q from q) .non M H s.st .none_
    | false => exact (show Post K M0 H0 .none Q from q) .non M H s.st .none_
  | brk env => cases h
  | ct env => cases h
  | ret dd fr =>
    intro M H v hr
    obtain ⟨st, hv⟩ := hr
    cases fresh with
    | false =>
      have h : some dd = some d := by cases dd <;> exact h
      cases h
      have q : Post K M0 H0 d Q := q
      cases fr with
      | false => exact q v M H st hv
      | true =>
        obtain ⟨ds, p, vs, rfl, rfl, h0, hm, hh, hr⟩ := hv
        exact q.own p vs M H h0 hm st hh hr
    | true =>
      cases fr with
      | true =>
        obtain ⟨ds, p, vs, rfl, rfl, h0, hm, hh, hr⟩ := hv
        cases h
        exact (show PostF K M0 H0 ds Q from q) p vs M H h0 hm st hh hr
      | false =>
        cases dd <;> first | (cases h; done) | (cases h; exact (show Post K M0 H0 _ Q from q) v M H st hv)
theorem start_rel {N : List Str} {vs : List V} {ds : List D} {M H : Hp} (mh : Same M H) (r : RpA K M vs ds) : SRel K M H M H (start N vs) (env0 N.length ds) where
  len := by
    unfold L2.start env0
    rw [List.length_append, List.length_append, List.length_map, List.length_map, List.length_replicate, List.length_replicate, rpa_len r]
  st := Stp.refl mh
  data := fun i x h => by
    unfold env0 at h
    unfold L2.start
    by_cases hi : i < ds.length
    · rw [List.getElem?_append_left (by rw [List.length_map]; exact hi), List.getElem?_map] at h
      rw [List.getElem?_append_left (by rw [List.length_map, rpa_len r]; exact hi), List.getElem?_map]
      cases e : ds[i]? with
      | none => rw [e] at h; cases h
      | some d =>
        rw [e] at h
        cases h
        obtain ⟨v, e1, e2⟩ := dpa_get r e
        exact ⟨v, by rw [e1]; rfl, e2⟩
    · rw [List.getElem?_append_right (by rw [List.length_map]; omega)] at h
      obtain ⟨_, e⟩ := List.getElem?_eq_some_iff.mp h
      rw [List.getElem_replicate] at e
      cases e
  own := fun i xs h => by
    exfalso
    unfold env0 at h
    by_cases hi : i < ds.length
    · rw [List.getElem?_append_left (by rw [List.length_map]; exact hi), List.getElem?_map] at h
      cases e : ds[i]? with
      | none => rw [e] at h; cases h
      | some d => rw [e] at h; cases h
    · rw [List.getElem?_append_right (by rw [List.length_map]; omega)] at h
      obtain ⟨_, e⟩ := List.getElem?_eq_some_iff.mp h
      rw [List.getElem_replicate] at e
      cases e
  dist := fun i j xs ys a h => by
    exfalso
    unfold env0 at h
    by_cases hi : i < ds.length
    · rw [List.getElem?_append_left (by rw [List.length_map]; exact hi), List.getElem?_map] at h
      cases e : ds[i]? with
      | none => rw [e] at h; cases h
      | some d => rw [e] at h; cases h
    · rw [List.getElem?_append_right (by rw [List.length_map]; omega)] at h
      obtain ⟨_, e⟩ := List.getElem?_eq_some_iff.mp h
      rw [List.getElem_replicate] at e
      cases e
  ownk := fun i ks h => by
    exfalso
    unfold env0 at h
    by_cases hi : i < ds.length
    · rw [List.getElem?_append_left (by rw [List.length_map]; exact hi), List.getElem?_map] at h
      cases e : ds[i]? with
      | none => rw [e] at h; cases h
      | some d => rw [e] at h; cases h
    · rw [List.getElem?_append_right (by rw [List.length_map]; omega)] at h
      obtain ⟨_, e⟩ := List.getElem?_eq_some_iff.mp h
      rw [List.getElem_replicate] at e
      cases e
  distk := fun i j xs ys a h => by
    exfalso
    unfold env0 at h
    by_cases hi : i < ds.length
    · rw [List.getElem?_append_left (by rw [List.length_map]; exact hi), List.getElem?_map] at h
      cases e : ds[i]? with
      | none => rw [e] at h; cases h
      | some d => rw [e] at h; cases h
    · rw [List.getElem?_append_right (by rw [List.length_map]; omega)] at h
      obtain ⟨_, e⟩ := List.getElem?_eq_some_iff.mp h
      rw [List.getElem_replicate] at e
      cases e
theorem runD_len {fresh : Bool} {ps m : Nat} {body : DenS} {F : List Sem1} {ds : List D} {d : D} (h : runD fresh ps m body F ds = some d) : ds.length = ps := by
  unfold runD at h
  split at h
  · assumption
  · cases h
/-- THE DEF: by what its text means -/
theorem def_ok {x qual : Str} {st : Stmt} {f : Addr} {fd : FuncData} {N ps T B : List Str} {k big fuel : Nat} {F : List Sem1} {fresh : Bool} {body : DenS} (hF : Fun K x qual st f fd) (S : FnScope N ps (defScope st)) (lib : Lib P w K mg base k T F) (hB : ∀ x ∈ B, mg x = none) {G : List (Str × Gv)} (hG : ∀ p ∈ G, GOk K w mg p)
    (hden : denSs ⟨N, T, B, G⟩ big (defScope st) fuel (defBody st) = body) : FnOk P w K mg base CX0 (k + 1) f fd ps (spS K ⟨runD fresh ps.length N.length body F, fresh⟩ ps.length) := by
  refine hF.ok S (fun vs H Q E h => h.1) (fun cdv A outer s H vs Q E hr h => ?_)
  obtain ⟨hl, M, ds, d, mh, ra, hrun, q⟩ := h
  have hrun' : runD fresh ps.length N.length body F ds = some d := hrun
  have hlen := runD_len hrun'
  unfold runD at hrun'
  rw [if_pos hlen] at hrun'
  cases hb : body F (env0 N.length ds) with
  | none => rw [hb] at hrun'; cases hrun'
  | some r =>
    rw [hb] at hrun'
    have ct : Ct ((cxOf CX0 P w K mg base N qual (defScope st) f cdv A outer s H E).nox) ⟨N, T, B, G⟩ (defScope st) F true :=
      { sc := rfl, N := rfl, nd := S.nd, calm := rfl, kind := fun _ => S.kind, units := hr.units, fn := fun _ _ => rfl, bl := hB, gl := hG,
        tab := fun X' al j x s h1 h2 => lib X' al.prog al.w al.K al.mg al.base al.calm (by rw [al.A]; exact hr) j x s h1 h2, pass := PassesOwn.never }
    exact ⟨_, pss_w, (all_S fuel).2 _ _ _ _ r ct (by rw [hden]; exact hb) M H M H _ _ (start_rel mh ra) (outD_end hrun' q)⟩
theorem call_def {X : Cx} {k : Nat} {f : Addr} {fd : FuncData} {ps : List Str} {s : Sem1} (hF : FnOk X.prog X.w X.K X.mg X.base CX0 k f fd ps (spS X.K s ps.length)) (hr : Room k X.A) (hb : Binds X.K fd ps []) (hlen : ∀ ds d, s.run ds = some d → ds.length = ps.length) :
    CallR X (.ref f) (rSem X.K s) := by
  intro pins st σ H xs us Q I r h
  refine run_fn hF hr hb .nil pass0 I r ⟨?_, ?_⟩
  · obtain ⟨M, ds, d, mh, ra, hrun, q⟩ := h
    rw [List.append_nil, rpa_len ra]
    exact hlen ds d hrun
  · rw [List.append_nil]
    exact h
theorem Lib.mono {j k : Nat} {T : List Str} {F : List Sem1} (h : Lib P w K mg base j T F) (hjk : j ≤ k) : Lib P w K mg base k T F := fun X a b c d e f hr => h X a b c d e f (hr.mono hjk)
/-- one def more -/
theorem Lib.add {k : Nat} {T : List Str} {F : List Sem1} {x : Str} {f : Addr} {fd : FuncData} {ps : List Str} {s : Sem1} (h : Lib P w K mg base k T F) (hx : T[F.length]? = some x) (hF : FnOk P w K mg base CX0 (k + 1) f fd ps (spS K s ps.length)) (hb : Binds K fd ps [])
    (hlen : ∀ ds d, s.run ds = some d → ds.length = ps.length) (hm : mg x = some (.ref f)) (hk : PySem.W.keepIn K (.ref f) = true) : Lib P w K mg base (k + 1) T (F ++ [s]) := by
  intro X h1 h2 h3 h4 h5 h6 hr j y s' e1 e2
  by_cases hj : j < F.length
  · rw [List.getElem?_append_left hj] at e2
    exact h X h1 h2 h3 h4 h5 h6 (hr.mono (Nat.le_succ k)) j y s' e1 e2
  · have hj' : j = F.length := by
      have z := (List.getElem?_eq_some_iff.mp e2).1
      rw [List.length_append, List.length_singleton] at z
      omega
    subst hj'
    rw [hx] at e1
    cases e1
    rw [List.getElem?_append_right (Nat.le_refl _), Nat.sub_self] at e2
    cases e2
    subst h1 h2 h3 h4 h5
    exact .df f hm hk (call_def hF hr hb hlen)
theorem Lib.up {j k : Nat} {T : List Str} {F : List Sem1} (h : Lib P w K mg base j T F) (d : Nat) (e : k = j + d) : Lib P w K mg base k T F := by
  subst e
  exact h.mono (Nat.le_add_right _ _)
theorem CallR.le {X : Cx} {f : Value} {r r' : List V → Hp → VK → Prop} (h : CallR X f r) (i : ∀ vs H Q, r' vs H Q → r vs H Q) : CallR X f r' := fun pins s σ H xs us Q I rx q => h pins s σ H xs us Q I rx (i _ _ _ q)
theorem CallR.le2 {X : Cx} {f : Value} {r' : List V → Hp → VK → Prop} (i : ∀ vs H Q, r' vs H Q → ∃ r, CallR X f r ∧ r vs H Q) : CallR X f r' := fun pins s σ H xs us Q I rx q => by
  obtain ⟨r, h, z⟩ := i _ _ _ q
  exact h pins s σ H xs us Q I rx z
def lenD : D → Option D
  | .list xs => some (.int xs.length)
  | .tuple xs => some (.int xs.length)
  | .dict kvs => match tailK kvs with
    | some _ => none
    | none => some (.int kvs.length)
  | .str z => if z.length ≤ lim then some (.int z.length) else none
  | _ => none
def semLen : Sem1 := ⟨fun | [d] => lenD d | _ => none, false⟩
theorem ok_len {X : Cx} : CallR X (.builtin "len") (rSem X.K semLen) := by
  refine CallR.le call_len fun vs H Q h => ?_
  obtain ⟨M, ds, d, mh, ra, hr, q⟩ := h
  match ds, ra, hr with
  | [x], .cons_ (v := v) rx .nil_, hr =>
    have hr : lenD x = some d := hr
    have q : Post X.K M H d Q := q
    unfold lenD at hr
    split at hr
    · cases rx with
      | list_ h1 r1 =>
        cases hr
        exact ⟨_, _, rfl, .inl ⟨_, .inl (rd_up mh h1), (rpa_len r1).symm⟩, q.here mh (.int_ _)⟩
    · cases rx with
      | tuple_ h1 r1 =>
        cases hr
        exact ⟨_, _, rfl, .inr ⟨_, seqT_mono mh h1, (rpa_len r1).symm⟩, q.here mh (.int_ _)⟩
    · cases rx with
      | scr_ ns h1 =>
        rw [tailK_scr] at hr
        cases hr
        exact ⟨_, _, rfl, .inl ⟨_, mh.seq h1, by rw [List.length_map, List.length_map]⟩, q.here mh (.int_ _)⟩
      | dict_ ks hf h1 =>
        rw [tailK_mark] at hr
        cases hr
    · split at hr
      · rename_i hl
        cases rx
        cases hr
        exact ⟨_, _, rfl, ⟨Nat.le_trans hl lim_line, rfl⟩, q.here mh (.int_ _)⟩
      · cases hr
    · cases hr
def semMax : Sem1 := ⟨fun | [.int i, .int j] => some (.int (if j > i then j else i)) | _ => none, false⟩
theorem ok_max {X : Cx} (hc : X.calm = true) : CallR X (.builtin "max") (rSem X.K semMax) := by
  refine CallR.le (call_max2 hc) fun vs H Q h => ?_
  obtain ⟨M, ds, d, mh, ra, hr, q⟩ := h
  match ds, ra, hr with
  | [.int i, .int j], .cons_ rx (.cons_ ry .nil_), hr =>
    cases hr
    cases rx
    cases ry
    exact ⟨i, j, rfl, (show Post X.K M H _ Q from q).here mh (.int_ _)⟩
def semMin : Sem1 := ⟨fun | [.int i, .int j] => some (.int (if j < i then j else i)) | _ => none, false⟩
theorem ok_min {X : Cx} (hc : X.calm = true) : CallR X (.builtin "min") (rSem X.K semMin) := by
  refine CallR.le (call_min2 hc) fun vs H Q h => ?_
  obtain ⟨M, ds, d, mh, ra, hr, q⟩ := h
  match ds, ra, hr with
  | [.int i, .int j], .cons_ rx (.cons_ ry .nil_), hr =>
    cases hr
    cases rx
    cases ry
    exact ⟨i, j, rfl, (show Post X.K M H _ Q from q).here mh (.int_ _)⟩
def semAbs : Sem1 := ⟨fun | [.int i] => some (.int (if i < 0 then -i else i)) | _ => none, false⟩
theorem ok_abs {X : Cx} : CallR X (.builtin "abs") (rSem X.K semAbs) := by
  refine CallR.le call_abs fun vs H Q h => ?_
  obtain ⟨M, ds, d, mh, ra, hr, q⟩ := h
  match ds, ra, hr with
  | [.int i], .cons_ rx .nil_, hr =>
    cases hr
    cases rx
    exact ⟨i, rfl, (show Post X.K M H _ Q from q).here mh (.int_ _)⟩
def intTD (a : Str) : Option D := if a.length ≤ 640 then (PySem.intText? a).map PyData.int else none
def semInt : Sem1 := ⟨fun | [.int i] => some (.int i) | [.bool b] => some (.int (if b then 1 else 0)) | [.str a] => intTD a | _ => none, false⟩
theorem ok_int {X : Cx} : CallR X (.type "int") (rSem X.K semInt) := by
  refine CallR.le2 fun vs H Q h => ?_
  obtain ⟨M, ds, d, mh, ra, hr, q⟩ := h
  match ds, ra, hr with
  | [.int i], .cons_ rx .nil_, hr =>
    cases hr
    cases rx
    exact ⟨_, call_int1, .inl ⟨i, rfl, (show Post X.K M H _ Q from q).here mh (.int_ _)⟩⟩
  | [.bool b], .cons_ rx .nil_, hr =>
    cases hr
    cases rx
    exact ⟨_, call_int1, .inr ⟨b, rfl, (show Post X.K M H _ Q from q).here mh (.int_ _)⟩⟩
  | [.str a], .cons_ rx .nil_, hr =>
    have hr : intTD a = some d := hr
    unfold intTD at hr
    split at hr
    · rename_i hl
      obtain ⟨n, hn, rfl⟩ := Option.map_eq_some_iff.mp hr
      cases rx
      exact ⟨_, call_int_str, a, n, rfl, hn, hl, (show Post X.K M H _ Q from q).here mh (.int_ _)⟩
    · cases hr
def semStr : Sem1 := ⟨fun | [.int i] => if i.natAbs.log2 < 1920 then some (.str (toString i)) else none | _ => none, false⟩
theorem ok_str {X : Cx} : CallR X (.type "str") (rSem X.K semStr) := by
  refine CallR.le call_str_int fun vs H Q h => ?_
  obtain ⟨M, ds, d, mh, ra, hr, q⟩ := h
  match ds, ra, hr with
  | [.int i], .cons_ rx .nil_, hr =>
    have hr : (if i.natAbs.log2 < 1920 then some (PyData.str (toString i)) else none) = some d := hr
    split at hr
    · rename_i hl
      cases hr
      cases rx
      exact ⟨i, rfl, hl, (show Post X.K M H _ Q from q).here mh (.str_ _)⟩
    · cases hr
def semTuple : Sem1 := ⟨fun | [.list xs] => some (.tuple xs) | [.tuple xs] => some (.tuple xs) | _ => none, false⟩
theorem ok_tuple {X : Cx} : CallR X (.type "tuple") (rSem X.K semTuple) := by
  refine CallR.le call_tuple_of fun vs H Q h => ?_
  obtain ⟨M, ds, d, mh, ra, hr, q⟩ := h
  match ds, ra, hr with
  | [.list xs], .cons_ rx .nil_, hr =>
    cases hr
    cases rx with
    | list_ h1 r1 => exact ⟨_, _, rfl, .inl ⟨.inl (rd_up mh h1), fun l hl => (show Post X.K M H _ Q from q) _ _ _ (Stp.laid mh hl) (.tuple_ (.inl (.inl upd_same)) (dpa_mono (Stp.laid mh hl).m _ _ r1))⟩⟩
  | [.tuple xs], .cons_ rx .nil_, hr =>
    cases hr
    cases rx with
    | tuple_ h1 r1 => exact ⟨_, _, rfl, .inr ⟨seqT_mono mh h1, (show Post X.K M H _ Q from q).here mh (.tuple_ h1 r1)⟩⟩
def keysD (kvs : List (D × D)) : Option D := (tailK kvs).map fun r => .list (r.map (·.1))
def semList : Sem1 := ⟨fun | [.list xs] => some (.list xs) | [.tuple xs] => some (.list xs) | [.dict kvs] => keysD kvs | _ => none, true⟩
theorem rpa_keys {K : PySem.W.Frag} {M : Hp} : ∀ ks : List (Key × D), RpA K M ((ks.map fun p => (p.1, atV p.2)).map fun kv => kV kv.1) ((ks.map fun p => (keyD p.1, p.2)).map (·.1))
  | [] => .nil_
  | (k, d) :: r => .cons_ (by cases k; exact .int_ _; exact .str_ _) (rpa_keys r)
theorem ok_list {X : Cx} (hc : X.calm = true) : CallR X (.type "list") (rSem X.K semList) := by
  refine CallR.le2 fun vs H Q h => ?_
  obtain ⟨M, ds, d, mh, ra, hr, q⟩ := h
  match ds, ra, hr with
  | [.list xs], .cons_ rx .nil_, hr =>
    cases hr
    cases rx with
    | list_ h1 r1 => exact ⟨_, call_list_of, _, _, rfl, .inl (.inl (rd_up mh h1)), fun l hl => (show PostF X.K M H _ Q from q) l _ M _ hl (mh.free hl) (Stp.mine mh hl) upd_same r1⟩
  | [.tuple xs], .cons_ rx .nil_, hr =>
    cases hr
    cases rx with
    | tuple_ h1 r1 => exact ⟨_, call_list_of, _, _, rfl, .inr (seqT_mono mh h1), fun l hl => (show PostF X.K M H _ Q from q) l _ M _ hl (mh.free hl) (Stp.mine mh hl) upd_same r1⟩
  | [.dict kvs], .cons_ rx .nil_, hr =>
    have hr : keysD kvs = some d := hr
    unfold keysD at hr
    cases rx with
    | scr_ ns h1 => rw [tailK_scr] at hr; cases hr
    | dict_ ks hf h1 =>
      rw [tailK_mark] at hr
      cases hr
      exact ⟨_, call_listD hc, _, _, rfl, rd_up mh h1, fun l hl => (show PostF X.K M H _ Q from q) l _ M _ hl (mh.free hl) (Stp.mine mh hl) upd_same (rpa_keys ks)⟩
def intsOf : List D → Option (List Int)
  | [] => some []
  | .int i :: r => (intsOf r).map (i :: ·)
  | _ => none
theorem intsOf_eq : ∀ {ds : List D} {ns : List Int}, intsOf ds = some ns → ds = ns.map PyData.int
  | [], _, h => by cases h; rfl
  | .int i :: r, ns, h => by
    unfold intsOf at h
    cases e : intsOf r with
    | none => rw [e] at h; cases h
    | some ms =>
      rw [e] at h
      cases h
      rw [intsOf_eq e]
      rfl
def blsOf : List D → Option (List Bool)
  | [] => some []
  | .bool i :: r => (blsOf r).map (i :: ·)
  | _ => none
theorem blsOf_eq : ∀ {ds : List D} {ns : List Bool}, blsOf ds = some ns → ds = ns.map PyData.bool
  | [], _, h => by cases h; rfl
  | .bool i :: r, ns, h => by
    unfold blsOf at h
    cases e : blsOf r with
    | none => rw [e] at h; cases h
    | some ms =>
      rw [e] at h
      cases h
      rw [blsOf_eq e]
      rfl
def semSum : Sem1 := ⟨fun | [.list xs] => (intsOf xs).map fun ns => .int ns.sum | _ => none, false⟩
theorem ok_sum {X : Cx} (hc : X.calm = true) : CallR X (.builtin "sum") (rSem X.K semSum) := by
  refine CallR.le (cr_sum hc) fun vs H Q h => ?_
  obtain ⟨M, ds, d, mh, ra, hr, q⟩ := h
  match ds, ra, hr with
  | [.list xs], .cons_ rx .nil_, hr =>
    have hr : (intsOf xs).map (fun ns => PyData.int ns.sum) = some d := hr
    cases e : intsOf xs with
    | none => rw [e] at hr; cases hr
    | some ns =>
      rw [e] at hr
      cases hr
      have e := intsOf_eq e
      subst e
      cases rx with
      | list_ h1 r1 =>
        have z := vs_ints r1
        subst z
        exact ⟨_, ns, rfl, .inl (rd_up mh h1), (show Post X.K M H _ Q from q).here mh (.int_ _)⟩
def semAny : Sem1 := ⟨fun | [.list xs] => (blsOf xs).map fun ns => .bool (ns.any id) | _ => none, false⟩
theorem ok_any {X : Cx} (hc : X.calm = true) : CallR X (.builtin "any") (rSem X.K semAny) := by
  refine CallR.le (cr_any hc) fun vs H Q h => ?_
  obtain ⟨M, ds, d, mh, ra, hr, q⟩ := h
  match ds, ra, hr with
  | [.list xs], .cons_ rx .nil_, hr =>
    have hr : (blsOf xs).map (fun ns => PyData.bool (ns.any id)) = some d := hr
    cases e : blsOf xs with
    | none => rw [e] at hr; cases hr
    | some ns =>
      rw [e] at hr
      cases hr
      have e := blsOf_eq e
      subst e
      cases rx with
      | list_ h1 r1 =>
        have z := vs_bls r1
        subst z
        exact ⟨_, ns, rfl, .inl (rd_up mh h1), (show Post X.K M H _ Q from q).here mh (.bool_ _)⟩
def semAll : Sem1 := ⟨fun | [.list xs] => (blsOf xs).map fun ns => .bool (ns.all id) | _ => none, false⟩
theorem ok_all {X : Cx} (hc : X.calm = true) : CallR X (.builtin "all") (rSem X.K semAll) := by
  refine CallR.le (cr_all hc) fun vs H Q h => ?_
  obtain ⟨M, ds, d, mh, ra, hr, q⟩ := h
  match ds, ra, hr with
  | [.list xs], .cons_ rx .nil_, hr =>
    have hr : (blsOf xs).map (fun ns => PyData.bool (ns.all id)) = some d := hr
    cases e : blsOf xs with
    | none => rw [e] at hr; cases hr
    | some ns =>
      rw [e] at hr
      cases hr
      have e := blsOf_eq e
      subst e
      cases rx with
      | list_ h1 r1 =>
        have z := vs_bls r1
        subst z
        exact ⟨_, ns, rfl, .inl (rd_up mh h1), (show Post X.K M H _ Q from q).here mh (.bool_ _)⟩
end
end PU
set_option backward.match.sparseCases false
namespace PU
open PySem PySem.Spec PyProof.Rows L2

def tupY : D → Bool
  | .tuple (_ :: _) => true
  | _ => false
def tupN : D → Bool
  | .tuple _ => false
  | .none => false
  | _ => true
def sortB (ds : List D) : Bool := (ds.all fun d => ds.all fun e => PySem.W.alike d e) && (ds.all tupY || ds.all tupN) && (ds.all fun d => PyData.canLay0 d && decide (d.depth ≤ 32)) && decide (ds.length ≤ lim)
def sortD (ds : List D) : List D := ds.mergeSort (PySem.W.dataLe false id)
def semSorted : Sem1 := ⟨fun | [.list xs] => if sortB xs then some (.list (sortD xs)) else none | _ => none, true⟩
section
variable {K : PySem.W.Frag} {M H : Hp}
theorem each_of {R : Value → D → Prop} (hR : ∀ u d v, RelV v u → Rp K M v d → R u d) : ∀ {vs : List V} {us : List Value} {ds : List D}, Vals vs us → RpA K M vs ds → PySem.W.EachIs R us ds
  | _, _, _, .nil, .nil_ => .nil
  | _, _, _, .cons r t, .cons_ q s => .cons (hR _ _ _ r q) (each_of hR t s)
theorem each_all {R : Value → D → Prop} (p : D → Bool) (hR : ∀ u d v, RelV v u → Rp K M v d → p d = true → R u d) : ∀ {vs : List V} {us : List Value} {ds : List D}, ds.all p = true → Vals vs us → RpA K M vs ds → PySem.W.EachIs R us ds
  | _, _, _, _, .nil, .nil_ => .nil
  | _, _, _, h, .cons r t, .cons_ q s => by
    rw [List.all_cons, Bool.and_eq_true] at h
    exact .cons (hR _ _ _ r q h.1) (each_all p hR h.2 t s)
theorem of_each : ∀ {us : List Value} {ds : List D}, PySem.W.EachIs (fun u d => ∃ v, RelV v u ∧ Rp K M v d) us ds → ∃ vs, Vals vs us ∧ RpA K M vs ds
  | _, _, .nil => ⟨[], .nil, .nil_⟩
  | _, _, .cons ⟨v, r, q⟩ t => by
    obtain ⟨vs, a, b⟩ := of_each t
    exact ⟨v :: vs, .cons r a, .cons_ q b⟩
end
theorem ok_sorted {X : Cx} (hu : X.A.units + 64 < cLine) : CallR X (.builtin "sorted") (rSem X.K semSorted) := by
  intro pins s σ H vs us Q I r h
  obtain ⟨M, ds, d, mh, ra, hr, q⟩ := h
  match ds, ra, hr with
  | [.list xs], .cons_ rx .nil_, hr =>
    have hr : (if sortB xs = true then some (PyData.list (sortD xs)) else none) = some d := hr
    split at hr
    · rename_i hs
      cases hr
      unfold sortB at hs
      rw [Bool.and_eq_true, Bool.and_eq_true, Bool.and_eq_true] at hs
      obtain ⟨⟨⟨h1, h2⟩, h3⟩, h4⟩ := hs
      have h4 := of_decide_eq_true h4
      cases rx with
      | list_ hl ra =>
        rename_i a ws
        obtain ⟨its, rv, pl, hz⟩ := I.list (.inl (rd_up mh hl))
        obtain ⟨u, rfl, ru⟩ := vals1 r
        obtain rfl : u = Value.ref a := ru
        have hal : PySem.W.AllAlike (xs.map id) := by
          rw [List.map_id]
          intro d hd d' hd'
          exact List.all_eq_true.mp (List.all_eq_true.mp h1 d hd) d' hd'
        have hk : PySem.W.Sortable (xs.map id) := by
          rw [List.map_id]
          rw [Bool.or_eq_true] at h2
          rcases h2 with h2 | h2
          · refine .inl fun d hd => ?_
            have z := List.all_eq_true.mp h2 d hd
            unfold tupY at z
            split at z
            · exact ⟨_, _, rfl⟩
            · cases z
          · refine .inr fun d hd => ?_
            have z := List.all_eq_true.mp h2 d hd
            unfold tupN at z
            split at z
            · cases z
            · cases z
            · rename_i n1 n2
              exact ⟨n2, n1⟩
        have e := each_of (R := fun u d => ∃ v, RelV v u ∧ Rp X.K M v d) (fun u d v a b => ⟨v, a, b⟩) rv ra
        have er : PySem.W.EachIs (fun v b => ∃ as, Reads s.heap v (id b) as) its xs := each_all (K := X.K) (M := M) (fun d => PyData.canLay0 d && decide (d.depth ≤ 32)) (fun u d v a b c => by
          rw [Bool.and_eq_true] at c
          exact Dp.reads I d v u (rp_dp c.1 (dp_mono mh _ _ b)) a) h3 rv ra
        refine PySem.W.sorted_data (enc := id) pl.isList e er hal hk (Nat.le_trans h4 lim_line) (fun b hb => ?_) fun out hlo ho => ?_
        · have z := List.all_eq_true.mp h3 b hb
          rw [Bool.and_eq_true] at z
          have z2 := of_decide_eq_true z.2
          show X.A.units + 2 + b.depth < cLine
          omega
        · obtain ⟨zs, hv, hr⟩ := of_each ho
          obtain ⟨c, hc⟩ := PyProof.Rows.sortedAll_at s.heap its (List.toArray out)
          have hp : H (s.heap.objs.size + 1) = none := I.hok.fresh (Nat.le_succ _)
          have hlen : zs.length ≤ sizeLine := by
            rw [hv.length, hlo]
            exact Nat.le_trans h4 lim_line
          refine ⟨.ref (s.heap.objs.size + 1), upd H (s.heap.objs.size + 1) (.lst zs), I.laid (t' := s.toks) (fun _ _ => PyProof.Rows.sortedAll_old) (Nat.le_succ _) ⟨hlen, out, c, hv, hc⟩, rfl, ?_⟩
          exact (show PostF X.K M H _ Q from q) _ zs M _ hp (mh.free hp) (Stp.mine mh hp) upd_same hr
    · cases hr

section
variable {P : Program} {w : World} {K : PySem.W.Frag} {mg : Str → Option Value} {base : Heap}
theorem Lib.nil {k : Nat} {T : List Str} : Lib P w K mg base k T [] := fun X _ _ _ _ _ _ _ j x s _ h => by cases h
theorem Lib.addB {k : Nat} {T : List Str} {F : List Sem1} {x : Str} {s : Sem1} {id : String} (h : Lib P w K mg base k T F) (hx : T[F.length]? = some x) (hm : mg x = none) (hv : bootBuiltins x = some (.builtin id)) (hn : x ≠ "__name__")
    (c : ∀ X : Cx, X.calm = true → X.A.units + 64 < cLine → CallR X (.builtin id) (rSem X.K s)) : Lib P w K mg base k T (F ++ [s]) := by
  intro X h1 h2 h3 h4 h5 h6 hr j y s' e1 e2
  by_cases hj : j < F.length
  · rw [List.getElem?_append_left hj] at e2
    exact h X h1 h2 h3 h4 h5 h6 hr j y s' e1 e2
  · have hj' : j = F.length := by
      have z := (List.getElem?_eq_some_iff.mp e2).1
      rw [List.length_append, List.length_singleton] at z
      omega
    subst hj'
    rw [hx] at e1
    cases e1
    rw [List.getElem?_append_right (Nat.le_refl _), Nat.sub_self] at e2
    cases e2
    exact .fn id (by rw [h4]; exact hm) hv hn (c X h6 hr.units)
theorem Lib.addT {k : Nat} {T : List Str} {F : List Sem1} {x : Str} {s : Sem1} {id : String} (h : Lib P w K mg base k T F) (hx : T[F.length]? = some x) (hm : mg x = none) (hv : bootBuiltins x = some (.type id)) (hn : x ≠ "__name__")
    (c : ∀ X : Cx, X.calm = true → X.A.units + 64 < cLine → CallR X (.type id) (rSem X.K s)) : Lib P w K mg base k T (F ++ [s]) := by
  intro X h1 h2 h3 h4 h5 h6 hr j y s' e1 e2
  by_cases hj : j < F.length
  · rw [List.getElem?_append_left hj] at e2
    exact h X h1 h2 h3 h4 h5 h6 hr j y s' e1 e2
  · have hj' : j = F.length := by
      have z := (List.getElem?_eq_some_iff.mp e2).1
      rw [List.length_append, List.length_singleton] at z
      omega
    subst hj'
    rw [hx] at e1
    cases e1
    rw [List.getElem?_append_right (Nat.le_refl _), Nat.sub_self] at e2
    cases e2
    exact .ty id (by rw [h4]; exact hm) hv hn (c X h6 hr.units)
theorem gok_int {x : Str} {i : Int} {t : Tok} (h : mg x = some (.int i t)) : GOk K w mg (x, .int i) := ⟨t, h⟩
theorem vals_strs : ∀ {zs : List Str} {us : List Value}, Paired (fun (z : Str) (u : Value) => ∃ t, u = Value.str z t) zs us → Vals (zs.map V.str) us
  | _, _, .nil => .nil
  | _, _, .cons h t => .cons h (vals_strs t)
theorem ent_tup {h : Int} {x : Str} {t : Tok} {a : Addr} {dd : Option Addr} {n : Nat} {sl : Array (Option Value)} {its : List Value} {zs : List Str} (l : K.lookup a = some ⟨.type "tuple", dd, .seq its.toArray n, sl⟩) (hz : zs.length ≤ 100)
    (hv : Paired (fun (z : Str) (u : Value) => ∃ t, u = Value.str z t) zs its) : EntK K ⟨h, .str x t, .ref a⟩ (x, .tuple (zs.map PyData.str)) :=
  ⟨⟨t, rfl⟩, .ref a, rfl, fun M => .tuple_ (.inr ⟨_, its.toArray, n, l, rfl, rfl, by rw [List.size_toArray, ← hv.length]; exact Nat.le_trans hz (by decide), by simpa using vals_strs hv⟩) (rpa_strs zs)⟩
def spLaw (K : PySem.W.Frag) : Sp := fun vs H Q _ => ∃ (a : Addr) (ns : List Int), vs = [.ref a] ∧ SqL K H a (ns.map V.int) ∧ ns.length ≤ 63 ∧ ∀ H', Q (.bl true) H'
theorem law_fn {k : Nat} {f : Addr} {fd : FuncData} {ps : List Str} {s : Sem1} (hp : ps.length = 1) (hF : FnOk P w K mg base CX0 k f fd ps (spS K s ps.length)) (h : ∀ ns : List Int, ns.length ≤ 63 → s.run [scrD ns] = some (.bool true)) : FnOk P w K mg base CX0 k f fd ps (spLaw K) := by
  refine hF.imp fun vs H Q E q => ?_
  obtain ⟨a, ns, rfl, hS, hl, k⟩ := q
  refine ⟨hp.symm, H, [scrD ns], .bool true, Same.refl H, .cons_ (.scr_ ns hS) .nil_, h ns hl, PostM.x fun v M' H' st r => ?_⟩
  cases r
  exact k H'
end
end PU
set_option backward.match.sparseCases false
namespace PU
open PySem PySem.Spec PyProof.Rows L2

section
variable {F : List Sem1} {env : DE} {sv : SE} {a b c : Den} {t : DenT} {o : Op} {i j : Nat} {d x y : D}
def boolOf : D → Option Bool
  | .bool b => some b
  | _ => none
def thenS (r : Fl) (k : SE → Option Fl) : Option Fl := match r with
  | .nx e => k e
  | r => some r
theorem q_var : eVar i F env = (env[i]?).join := by
  unfold eVar
  cases env[i]? with
  | none => rfl
  | some o => cases o <;> rfl
theorem q_c : eC d F env = some d := rfl
theorem q_bin : eBin o a b F env = (a F env).bind fun x => (b F env).bind fun y => opD o x y := by
  unfold eBin
  cases a F env with
  | none => rfl
  | some x => cases b F env <;> rfl
def negD : D → Option D
  | .int i => some (.int (-i))
  | _ => none
theorem q_neg : eNeg a F env = (a F env).bind negD := by
  unfold eNeg
  cases a F env with
  | none => rfl
  | some x => cases x <;> rfl
theorem q_not : eNot a F env = ((a F env).bind boolOf).map fun b => .bool (!b) := by
  unfold eNot
  cases a F env with
  | none => rfl
  | some x => cases x <;> rfl
theorem q_and : eAnd a b F env = ((a F env).bind boolOf).bind fun k => if k = true then b F env else some (.bool false) := by
  unfold eAnd
  cases a F env with
  | none => rfl
  | some x =>
    cases x <;> try rfl
    rename_i k
    cases k <;> rfl
theorem q_or : eOr a b F env = ((a F env).bind boolOf).bind fun k => if k = true then some (.bool true) else b F env := by
  unfold eOr
  cases a F env with
  | none => rfl
  | some x =>
    cases x <;> try rfl
    rename_i k
    cases k <;> rfl
theorem q_if : eIf t a b F env = (t F env).bind fun k => if k = true then a F env else b F env := by
  unfold eIf
  cases t F env with
  | none => rfl
  | some k => cases k <;> rfl
theorem q_nil : aNil F env = some [] := rfl
theorem q_cons {r : DenA} : aCons a r F env = (a F env).bind fun x => (r F env).bind fun xs => some (x :: xs) := by
  unfold aCons
  cases a F env with
  | none => rfl
  | some x => cases r F env <;> rfl
theorem q_tup {as : DenA} : eTup as F env = (as F env).bind fun ds => if ds.length ≤ lim then some (.tuple ds) else none := by
  unfold eTup
  cases as F env <;> rfl
theorem q_lst {as : DenA} : eLst as F env = (as F env).bind fun ds => if ds.length ≤ lim then some (.list ds) else none := by
  unfold eLst
  cases as F env <;> rfl
theorem q_ix : eIx a b F env = (a F env).bind fun x => (b F env).bind fun y => ixD x y := by
  unfold eIx
  cases a F env with
  | none => rfl
  | some x => cases b F env <;> rfl
def intOf : D → Option (Option Int)
  | .int i => some (some i)
  | _ => none
theorem q_opt0 : optI none F env = some none := rfl
theorem q_opt1 : optI (some a) F env = (a F env).bind intOf := by
  unfold optI
  show (match a F env with
    | some (.int i) => some (some i)
    | _ => none) = _
  cases a F env with
  | none => rfl
  | some x => cases x <;> rfl
theorem q_step {lo hi : Option Den} {k : Int} : eStep k a lo hi F env = (a F env).bind fun x => (optI lo F env).bind fun l => (optI hi F env).bind fun h => stepD k x l h := by
  unfold eStep
  cases a F env with
  | none => rfl
  | some x =>
    cases optI lo F env with
    | none => rfl
    | some l => cases optI hi F env <;> rfl
theorem step_list {xs : List D} {lo hi : Option Int} {k : Int} : stepD k (.list xs) lo hi = some (.list (pickL xs lo hi k)) := rfl
theorem q_ssc {own : List Nat} {tgt : Tgt} {it : DenA} {t : DenT} {e : Den} : eSortSc own tgt it t e F env = (it F env).bind fun xs => if xs.length ≤ 2000 then (lcD (lcTurn tgt own t e F env) xs).bind sortU else none := by
  unfold eSortSc
  cases it F env with
  | none => rfl
  | some xs =>
    show (if _ then _ else _) = (if _ then _ else _)
    split
    · cases lcD (lcTurn tgt own t e F env) xs <;> rfl
    · rfl
theorem sortU_ints {zs : List Int} (h : zs.length < 64) : sortU (zs.map PyData.int) = some (.list ((nubS zs).map PyData.int)) := by
  unfold sortU
  rw [intsU_map]
  show (if _ then _ else _) = _
  rw [if_pos h]
theorem o_leT {xs ys : List D} (h : PySem.W.alike (.tuple xs) (.tuple ys) = true) (h1 : SeqAt.shaped (.tuple xs) = true) (h2 : SeqAt.shaped (.tuple ys) = true) (h3 : (PyData.tuple xs).depth ≤ 32) : opD .le (.tuple xs) (.tuple ys) = some (.bool (!PySem.W.dataLt (.tuple ys) (.tuple xs))) := by
  show (if _ then _ else _) = _
  rw [if_pos ⟨h, h1, h2, h3⟩]
theorem q_sl {lo hi : Option Den} : eSl a lo hi F env = (a F env).bind fun x => (optI lo F env).bind fun l => (optI hi F env).bind fun h => slD x l h := by
  unfold eSl
  cases a F env with
  | none => rfl
  | some x =>
    cases optI lo F env with
    | none => rfl
    | some l => cases optI hi F env <;> rfl
theorem q_call {k : Nat} {as : DenA} : eCall k as F env = (as F env).bind fun ds => (F[k]?).bind fun s => s.run ds := by
  unfold eCall
  cases as F env with
  | none => rfl
  | some x => cases F[k]? <;> rfl
def isi2 (T : Ty) : D → Option D
  | .dict _ => none
  | x => some (.bool (isiD T x))
theorem q_isi {T : Ty} : eIsi T a F env = (a F env).bind (isi2 T) := by
  unfold eIsi
  cases a F env with
  | none => rfl
  | some x => cases x <;> rfl
theorem q_tB : tB a F env = (a F env).bind boolOf := by
  unfold tB
  cases a F env with
  | none => rfl
  | some x => cases x <;> rfl
theorem q_tVal : tVal a F env = (a F env).bind truD := by
  unfold tVal
  cases a F env <;> rfl
theorem q_tNot : tNot t F env = (t F env).map fun b => !b := by
  unfold tNot
  cases t F env <;> rfl
theorem q_tAnd {u : DenT} : tAnd t u F env = (t F env).bind fun k => if k = true then u F env else some false := by
  unfold tAnd
  cases t F env with
  | none => rfl
  | some k => cases k <;> rfl
theorem q_tOr {u : DenT} : tOr t u F env = (t F env).bind fun k => if k = true then some true else u F env := by
  unfold tOr
  cases t F env with
  | none => rfl
  | some k => cases k <;> rfl
theorem q_tYes : tYes' F env = some true := rfl
theorem q_chain {o' : Op} : eChain o o' a b c F env = (a F env).bind fun x => (b F env).bind fun y => ((opD o x y).bind boolOf).bind fun k => if k = true then (c F env).bind fun z => opD o' y z else some (.bool false) := by
  unfold eChain
  cases a F env with
  | none => rfl
  | some x =>
    cases b F env with
    | none => rfl
    | some y =>
      show _ = ((opD o x y).bind boolOf).bind _
      cases h : opD o x y with
      | none => simp only [h]; rfl
      | some z =>
        simp only [h]
        cases z <;> try rfl
        rename_i k
        cases k with
        | false => rfl
        | true => cases h2 : c F env <;> simp only [h2] <;> rfl
def seqOf : D → Option (List D)
  | .list xs => some xs
  | .tuple xs => some xs
  | _ => none
theorem q_seq : iSeq a F env = (a F env).bind seqOf := by
  unfold iSeq
  cases a F env with
  | none => rfl
  | some x => cases x <;> rfl
def rangeOf : D → Option (List D)
  | .int k => if k ≤ 1000000000 ∧ -1000000000 ≤ k then some (rangeD 0 k.toNat) else none
  | _ => none
theorem q_range1 : iRange1 a F env = (a F env).bind rangeOf := by
  unfold iRange1
  cases a F env with
  | none => rfl
  | some x => cases x <;> rfl
theorem s_nil : sNil F sv = some (.nx sv) := rfl
theorem s_seq {p q : DenS} : sSeq p q F sv = (p F sv).bind fun r => thenS r (q F) := by
  unfold sSeq
  cases p F sv with
  | none => rfl
  | some r => cases r <;> rfl
theorem then_nx {e : SE} {k : SE → Option Fl} : thenS (.nx e) k = k e := (rfl)
theorem then_ret {f : Bool} {k : SE → Option Fl} : thenS (.ret d f) k = some (.ret d f) := rfl
theorem then_brk {e : SE} {k : SE → Option Fl} : thenS (.brk e) k = some (.brk e) := rfl
theorem then_ct {e : SE} {k : SE → Option Fl} : thenS (.ct e) k = some (.ct e) := rfl
theorem r_asg {mk : Mk} : sAsg i mk a F sv = (a F (thawS sv)).bind fun d => some (.nx (asgV (mk.val F) i d sv)) := by
  unfold sAsg
  cases a F (thawS sv) <;> rfl
theorem v_list {ds : List D} : asgV true i (.list ds) sv = (aft (flats ds) sv).set i (some (.own ds)) := rfl
theorem v_listF {ds : List D} : asgV false i (.list ds) sv = (frzS sv).set i (some (.d (.list ds))) := rfl
theorem v_int {m : Bool} {n : Int} : asgV m i (.int n) sv = sv.set i (some (.d (.int n))) := by cases m <;> rfl
theorem v_bool {m : Bool} {n : Bool} : asgV m i (.bool n) sv = sv.set i (some (.d (.bool n))) := by cases m <;> rfl
theorem v_str {m : Bool} {n : Str} : asgV m i (.str n) sv = sv.set i (some (.d (.str n))) := by cases m <;> rfl
theorem v_none {m : Bool} : asgV m i .none sv = sv.set i (some (.d .none)) := by cases m <;> rfl
theorem v_tup {m : Bool} {ds : List D} : asgV m i (.tuple ds) sv = (aft (flats ds) sv).set i (some (.d (.tuple ds))) := by cases m <;> rfl
theorem aft_t : aft true sv = sv := rfl
theorem aft_f : aft false sv = frzS sv := rfl
theorem mk_no : Mk.no.val F = false := rfl
theorem mk_yes : Mk.yes.val F = true := rfl
theorem mk_call {k : Nat} : (Mk.call k).val F = ((F[k]?).map (·.fresh)).getD false := by
  unfold Mk.val
  cases h : F[k]? <;> simp only [h] <;> rfl
theorem r_asgT {tgt : Tgt} : sAsgT tgt a F sv = (a F (thawS sv)).bind fun d => (tgt.vals d).bind fun ds => some (.nx (setSv (aft (flat d) sv) tgt.ix ds)) := by
  unfold sAsgT
  cases a F (thawS sv) with
  | none => rfl
  | some d =>
    show (match tgt.vals d with
      | some ds => some (Fl.nx (setSv (aft (flat d) sv) tgt.ix ds))
      | none => none) = (tgt.vals d).bind fun ds => some (Fl.nx (setSv (aft (flat d) sv) tgt.ix ds))
    cases tgt.vals d <;> rfl
def augV (i : Nat) (q : AOp) (sv : SE) : Option Sv → D → Option Fl
  | some (.d (.int x)), .int y => some (.nx (sv.set i (some (.d (.int (q.f x y))))))
  | _, _ => none
theorem r_aug {q : AOp} : sAug i q a F sv = (sv[i]?).bind fun o => (a F (thawS sv)).bind fun d => augV i q sv o d := by
  unfold sAug
  cases sv[i]? with
  | none => rfl
  | some o =>
    cases ha : a F (thawS sv) with
    | none =>
      cases o with
      | none => rfl
      | some v =>
        cases v with
        | own xs => rfl
        | ownK ks => rfl
        | d x => cases x <;> simp only [ha] <;> rfl
    | some d =>
      cases o with
      | none => cases d <;> rfl
      | some v =>
        cases v with
        | own xs => cases d <;> rfl
        | ownK ks => cases d <;> rfl
        | d x => cases x <;> simp only [ha] <;> cases d <;> rfl
def appV (i : Nat) (sv : SE) (d : D) : Option Sv → Option Fl
  | some (.own xs) => if flat d = true ∧ xs.length < lim then some (.nx (sv.set i (some (.own (xs ++ [d]))))) else none
  | _ => none
theorem r_app : sApp i a F sv = (sv[i]?).bind fun o => (a F (thawS sv)).bind fun d => appV i sv d o := by
  unfold sApp
  cases sv[i]? with
  | none => rfl
  | some o =>
    cases ha : a F (thawS sv) with
    | none =>
      cases o with
      | none => rfl
      | some v => cases v <;> simp only [ha] <;> rfl
    | some d =>
      cases o with
      | none => rfl
      | some v => cases v <;> simp only [ha] <;> rfl
def extV (i : Nat) (m : Bool) (sv : SE) : D → Option Sv → Option Fl
  | .list ys, some (.own xs) => if m = true ∧ flats ys = true ∧ xs.length + ys.length ≤ lim then some (.nx (sv.set i (some (.own (xs ++ ys))))) else none
  | _, _ => none
theorem r_ext {mk : Mk} : sExt i mk a F sv = (sv[i]?).bind fun o => (a F (thawS sv)).bind fun d => extV i (mk.val F) sv d o := by
  unfold sExt
  cases sv[i]? with
  | none => rfl
  | some o =>
    cases ha : a F (thawS sv) with
    | none =>
      cases o with
      | none => rfl
      | some v => cases v <;> simp only [ha] <;> rfl
    | some d =>
      cases o with
      | none => cases d <;> rfl
      | some v => cases v <;> simp only [ha] <;> cases d <;> rfl
def insV (i : Nat) (sv : SE) (d : D) : D → Option Sv → Option Fl
  | .int j, some (.own xs) => if flat d = true ∧ xs.length < lim ∧ 0 ≤ j ∧ j ≤ 1000000 then some (.nx (sv.set i (some (.own (xs.take j.toNat ++ [d] ++ xs.drop j.toNat))))) else none
  | _, _ => none
theorem r_ins : sIns i b a F sv = (sv[i]?).bind fun o => (b F (thawS sv)).bind fun j => (a F (thawS sv)).bind fun d => insV i sv d j o := by
  unfold sIns
  cases sv[i]? with
  | none => rfl
  | some o =>
    cases hb : b F (thawS sv) with
    | none =>
      cases o with
      | none => rfl
      | some v => cases v <;> simp only [hb] <;> rfl
    | some j =>
      cases ha : a F (thawS sv) with
      | none =>
        cases o with
        | none => rfl
        | some v => cases v <;> simp only [hb] <;> cases j <;> (try simp only [ha]) <;> rfl
      | some d =>
        cases o with
        | none => cases j <;> rfl
        | some v => cases v <;> simp only [hb] <;> cases j <;> (try simp only [ha]) <;> rfl
def clrV (i : Nat) (sv : SE) : Option Sv → Option Fl
  | some (.own _) => some (.nx (sv.set i (some (.own []))))
  | _ => none
theorem r_clr : sClr i F sv = (sv[i]?).bind (clrV i sv) := by
  unfold sClr
  cases sv[i]? with
  | none => rfl
  | some o =>
    cases o with
    | none => rfl
    | some v => cases v <;> rfl
def itemV (i : Nat) (sv : SE) (d : D) : D → Option Sv → Option Fl
  | .int j, some (.own xs) => (ixN xs.length j).bind fun m => if flat d = true then some (.nx (sv.set i (some (.own (xs.set m d))))) else none
  | y, some (.ownK ks) => (keyOfD y).bind fun k => if atD d = true ∧ ks.length < lim then some (.nx (sv.set i (some (.ownK (putKD ks k d))))) else none
  | _, _ => none
theorem r_item : sItem i b a F sv = (sv[i]?).bind fun o => (a F (thawS sv)).bind fun d => (b F (thawS sv)).bind fun j => itemV i sv d j o := by
  unfold sItem
  cases sv[i]? with
  | none => rfl
  | some o =>
    cases ha : a F (thawS sv) with
    | none =>
      cases o with
      | none => rfl
      | some v => cases v <;> simp only [ha] <;> rfl
    | some d =>
      cases hb : b F (thawS sv) with
      | none =>
        cases o with
        | none => rfl
        | some v => cases v <;> simp only [ha, hb] <;> rfl
      | some j =>
        cases o with
        | none => cases j <;> rfl
        | some v =>
          cases v with
          | d x => cases j <;> rfl
          | ownK ks =>
            simp only [ha, hb, Option.bind_some]
            show (match keyOfD j with
              | some k => _
              | none => none) = itemV i sv d j (some (.ownK ks))
            cases j <;> rfl
          | own xs =>
            simp only [ha, hb]
            cases j <;> try rfl
            rename_i j
            show (match ixN xs.length j with
              | some m => _
              | none => none) = (ixN xs.length j).bind _
            cases ixN xs.length j <;> rfl
theorem r_if {p q : DenS} : sIf t p q F sv = (t F (thawS sv)).bind fun k => if k = true then p F sv else q F sv := by
  unfold sIf
  cases t F (thawS sv) with
  | none => rfl
  | some k => cases k <;> rfl
theorem r_for {fs : List Nat} {tgt : Tgt} {it : DenA} {body : DenS} : sFor fs tgt it body F sv = (it F (hideS (frzL fs sv))).bind fun xs => forD (body F) tgt xs (frzL fs sv) := by
  unfold sFor
  cases it F (hideS (frzL fs sv)) <;> rfl
def forNV (tgt : Tgt) (b : SE → Option Fl) (sv : SE) : D → Option Fl
  | .list xs => if flats xs = true then forD b tgt xs sv else none
  | _ => none
theorem r_forN {mk : Mk} {tgt : Tgt} {body : DenS} : sForN mk tgt a body F sv = if mk.val F = true then (a F (thawS sv)).bind (forNV tgt (body F) sv) else none := by
  unfold sForN
  cases mk.val F with
  | false => rfl
  | true =>
    rw [if_pos rfl]
    cases a F (thawS sv) with
    | none => rfl
    | some d => cases d <;> rfl
def revD : D → Option D
  | .list xs => some (.list xs.reverse)
  | _ => none
theorem q_rev : eRev a F env = (a F env).bind revD := by
  unfold eRev
  cases a F env with
  | none => rfl
  | some d => cases d <;> rfl
theorem rv_list {xs : List D} : revD (.list xs) = some (.list xs.reverse) := rfl
theorem fo_list {tgt : Tgt} {b : SE → Option Fl} {xs : List D} : forNV tgt b sv (.list xs) = if flats xs = true then forD b tgt xs sv else none := rfl
theorem ret_list {ds : List D} : retV true (.list ds) = .ret (.list ds) true := rfl
theorem ret_no : retV false d = .ret d false := by cases d <;> rfl
theorem ret_int {m : Bool} {n : Int} : retV m (.int n) = .ret (.int n) false := by cases m <;> rfl
theorem ret_bool {m : Bool} {n : Bool} : retV m (.bool n) = .ret (.bool n) false := by cases m <;> rfl
theorem ret_str {m : Bool} {n : Str} : retV m (.str n) = .ret (.str n) false := by cases m <;> rfl
theorem ret_none {m : Bool} : retV m .none = .ret .none false := by cases m <;> rfl
theorem ret_tup {m : Bool} {ds : List D} : retV m (.tuple ds) = .ret (.tuple ds) false := by cases m <;> rfl
theorem r_ret {mk : Mk} : sRet mk a F sv = (a F (thawS sv)).bind fun d => some (retV (mk.val F) d) := by
  unfold sRet
  cases a F (thawS sv) <;> rfl
def retSv : Option Sv → Option Fl
  | some (.own xs) => some (.ret (.list xs) true)
  | some (.d x) => some (.ret x false)
  | _ => none
theorem r_retV : sRetV i F sv = (sv[i]?).bind retSv := by
  unfold sRetV
  cases sv[i]? with
  | none => rfl
  | some o =>
    cases o with
    | none => rfl
    | some v => cases v <;> rfl
theorem retSv_own {xs : List D} : retSv (some (.own xs)) = some (.ret (.list xs) true) := rfl
theorem retSv_d : retSv (some (.d x)) = some (.ret x false) := rfl
theorem r_retN : sRetN F sv = some (.ret .none false) := rfl
theorem r_brk : sBrk F sv = some (.brk sv) := rfl
theorem r_ct : sCt F sv = some (.ct sv) := rfl
theorem r_drop : sDrop a F sv = (a F (thawS sv)).bind fun d => some (.nx (aft (flat d) sv)) := by
  unfold sDrop
  cases a F (thawS sv) <;> rfl
theorem o_add {i j : Int} : opD .add (.int i) (.int j) = some (.int (i + j)) := rfl
theorem o_sub {i j : Int} : opD .sub (.int i) (.int j) = some (.int (i - j)) := rfl
theorem o_mul {i j : Int} : opD .mul (.int i) (.int j) = if (-(2 ^ 64) < i ∧ i < 2 ^ 64) ∨ (-(2 ^ 64) < j ∧ j < 2 ^ 64) then some (.int (i * j)) else none := rfl
theorem o_fdiv {i j : Int} : opD .fdiv (.int i) (.int j) = if 0 < j ∧ j < 1073741824 then some (.int (i / j)) else none := rfl
theorem o_mod {i j : Int} : opD .mod (.int i) (.int j) = if 0 < j then some (.int (i % j)) else none := rfl
theorem o_pow {i j : Int} : opD .pow (.int i) (.int j) = if 0 ≤ j ∧ j ≤ 1000000 ∧ i.natAbs < 2 ^ 64 then some (.int (i ^ j.toNat)) else none := rfl
theorem o_lt {i j : Int} : opD .lt (.int i) (.int j) = some (.bool (decide (i < j))) := rfl
theorem o_le {i j : Int} : opD .le (.int i) (.int j) = some (.bool (decide (i ≤ j))) := rfl
theorem o_gt {i j : Int} : opD .gt (.int i) (.int j) = some (.bool (decide (j < i))) := rfl
theorem o_ge {i j : Int} : opD .ge (.int i) (.int j) = some (.bool (decide (j ≤ i))) := rfl
theorem o_eqD (hx : SeqAt.shaped x = true) (hy : SeqAt.shaped y = true) : opD .eq x y = some (.bool (PyData.eqv x y)) := by
  show eqD x y = _
  unfold eqD
  rw [if_pos ⟨hx, hy⟩]
theorem o_neD (hx : SeqAt.shaped x = true) (hy : SeqAt.shaped y = true) : opD .ne x y = some (.bool (!PyData.eqv x y)) := by
  show neD x y = _
  unfold neD
  rw [if_pos ⟨hx, hy⟩]
theorem sh_int {i : Int} : SeqAt.shaped (.int i) = true := by unfold SeqAt.shaped; simp [PyData.canLay0, PyData.depth]
theorem sh_bool {i : Bool} : SeqAt.shaped (.bool i) = true := by unfold SeqAt.shaped; simp [PyData.canLay0, PyData.depth]
theorem o_eqI {i j : Int} : opD .eq (.int i) (.int j) = some (.bool (decide (i = j))) := by
  rw [o_eqD sh_int sh_int, PyData.eqv, Bool.beq_eq_decide_eq]
theorem o_neI {i j : Int} : opD .ne (.int i) (.int j) = some (.bool (!decide (i = j))) := by
  rw [o_neD sh_int sh_int, PyData.eqv, Bool.beq_eq_decide_eq]
theorem o_eqB {p q : Bool} : opD .eq (.bool p) (.bool q) = some (.bool (p == q)) := by
  rw [o_eqD sh_bool sh_bool, PyData.eqv]
theorem o_neB {p q : Bool} : opD .ne (.bool p) (.bool q) = some (.bool (!(p == q))) := by
  rw [o_neD sh_bool sh_bool, PyData.eqv]
theorem o_addL {xs ys : List D} : opD .add (.list xs) (.list ys) = if xs.length + ys.length ≤ lim then some (.list (xs ++ ys)) else none := rfl
theorem b_bool {p : Bool} : boolOf (.bool p) = some p := rfl
theorem x_list {xs : List D} {i : Int} : ixD (.list xs) (.int i) = atI xs i := rfl
theorem x_tup {xs : List D} {i : Int} : ixD (.tuple xs) (.int i) = atI xs i := rfl
theorem at0 {α : Type} {p : α} {r : List α} : atI (p :: r) 0 = some p := by
  show atI (p :: r) ((0 : Nat) : Int) = _
  exact atI_nat rfl
theorem at1 {α : Type} {p q : α} {r : List α} : atI (p :: q :: r) 1 = some q := atI_nat (j := 1) rfl
theorem at2 {α : Type} {p q s : α} {r : List α} : atI (p :: q :: s :: r) 2 = some s := atI_nat (j := 2) rfl
theorem at3 {α : Type} {p q s u : α} {r : List α} : atI (p :: q :: s :: u :: r) 3 = some u := atI_nat (j := 3) rfl
theorem at4 {α : Type} {p q s u v : α} {r : List α} : atI (p :: q :: s :: u :: v :: r) 4 = some v := atI_nat (j := 4) rfl
theorem at5 {α : Type} {p q s u v w : α} {r : List α} : atI (p :: q :: s :: u :: v :: w :: r) 5 = some w := atI_nat (j := 5) rfl
theorem at6 {α : Type} {p q s u v w z : α} {r : List α} : atI (p :: q :: s :: u :: v :: w :: z :: r) 6 = some z := atI_nat (j := 6) rfl
theorem at7 {α : Type} {p q s u v w z k : α} {r : List α} : atI (p :: q :: s :: u :: v :: w :: z :: k :: r) 7 = some k := atI_nat (j := 7) rfl
theorem atN {α : Type} {xs : List α} {n : Nat} : atI xs ((n : Nat) : Int) = xs[n]? := by
  cases h : xs[n]? with
  | some v => exact atI_nat h
  | none =>
    unfold atI ixN
    rw [if_pos (by omega)]
    have hn : xs.length ≤ n := List.getElem?_eq_none_iff.mp h
    rw [if_neg (by omega)]
    rfl
theorem at_last {α : Type} {xs : List α} {p : α} : atI (xs ++ [p]) (-1) = some p := atI_last xs p
theorem len_l {xs : List D} : semLen.run [.list xs] = some (.int xs.length) := rfl
theorem len_t {xs : List D} : semLen.run [.tuple xs] = some (.int xs.length) := rfl
theorem len_s {ns : List Int} : semLen.run [scrD ns] = some (.int ns.length) := by
  show (match tailK (ns.map fun n => ((.int n, .none) : D × D)) with
    | some _ => none
    | none => some (PyData.int ((ns.map fun n => ((.int n, .none) : D × D)).length : Nat))) = _
  rw [tailK_scr, List.length_map]
theorem max_r {i j : Int} : semMax.run [.int i, .int j] = some (.int (max i j)) := by
  show some (PyData.int (if j > i then j else i)) = _
  congr 2
  split <;> omega
theorem min_r {i j : Int} : semMin.run [.int i, .int j] = some (.int (min i j)) := by
  show some (PyData.int (if j < i then j else i)) = _
  congr 2
  split <;> omega
theorem list_r {xs : List D} : semList.run [.list xs] = some (.list xs) := rfl
theorem f_len : semLen.fresh = false := rfl
theorem f_list : semList.fresh = true := rfl
theorem f_max : semMax.fresh = false := rfl
theorem f_min : semMin.fresh = false := rfl
theorem f_sorted : semSorted.fresh = true := rfl
theorem f_sum : semSum.fresh = false := rfl
theorem f_any : semAny.fresh = false := rfl
theorem out_ret {f : Bool} {n : Int} : outD f (some (.ret (.int n) false)) = some (.int n) := by cases f <;> rfl
theorem out_retB {f : Bool} {n : Bool} : outD f (some (.ret (.bool n) false)) = some (.bool n) := by cases f <;> rfl
theorem out_retL {f : Bool} {ds : List D} : outD f (some (.ret (.list ds) true)) = some (.list ds) := by cases f <;> rfl
theorem out_retT {f : Bool} {ds : List D} : outD f (some (.ret (.tuple ds) false)) = some (.tuple ds) := by cases f <;> rfl
theorem th_d : thaw (some (.d x)) = some x := rfl
theorem th_o {xs : List D} : thaw (some (.own xs)) = some (.list xs) := rfl
theorem th_n : thaw none = none := rfl
theorem hd_d : hide1 (some (.d x)) = some x := rfl
theorem hd_o {xs : List D} : hide1 (some (.own xs)) = none := rfl
theorem hd_n : hide1 none = none := rfl
theorem thawS_nil : thawS [] = [] := rfl
theorem thawS_cons {o : Option Sv} {r : SE} : thawS (o :: r) = thaw o :: thawS r := rfl
theorem hideS_nil : hideS [] = [] := rfl
theorem hideS_cons {o : Option Sv} {r : SE} : hideS (o :: r) = hide1 o :: hideS r := rfl
theorem frzL_nil : frzL [] sv = sv := rfl
theorem frzL_cons {is : List Nat} : frzL (i :: is) sv = frzL is (frzAt sv i) := rfl
def frzO (sv : SE) (i : Nat) : Option (Option Sv) → SE
  | some (some (.own xs)) => sv.set i (some (.d (.list xs)))
  | _ => sv
theorem frzAt_eq : frzAt sv i = frzO sv i sv[i]? := rfl
theorem fz_own {xs : List D} : frzO sv i (some (some (.own xs))) = sv.set i (some (.d (.list xs))) := rfl
theorem fz_d : frzO sv i (some (some (.d x))) = sv := rfl
theorem fz_k {ks : List (Key × D)} : frzO sv i (some (some (.ownK ks))) = sv := rfl
theorem fz_n : frzO sv i (some none) = sv := rfl
theorem fl_int {n : Int} : flat (.int n) = true := rfl
theorem fl_bool {n : Bool} : flat (.bool n) = true := rfl
theorem fl_str {n : Str} : flat (.str n) = true := rfl
theorem fl_tup {ds : List D} : flat (.tuple ds) = flats ds := by rw [flat]
theorem fls_nil : flats [] = true := by rw [flats]
theorem fls_cons {ds : List D} : flats (d :: ds) = (flat d && flats ds) := by rw [flats]
theorem fls_app : ∀ {xs ys : List D}, flats (xs ++ ys) = (flats xs && flats ys)
  | [], ys => by rw [List.nil_append, fls_nil, Bool.true_and]
  | z :: xs, ys => by rw [List.cons_append, fls_cons, fls_cons, fls_app, Bool.and_assoc]
theorem fls_map {α : Type} {f : α → D} (h : ∀ z, flat (f z) = true) : ∀ xs : List α, flats (xs.map f) = true
  | [] => by rw [List.map_nil, fls_nil]
  | z :: xs => by rw [List.map_cons, fls_cons, h, fls_map h xs, Bool.true_and]
theorem fls_ints (ns : List Int) : flats (ns.map PyData.int) = true := fls_map (fun _ => rfl) ns
theorem tg1 : (Tgt.one i).vals d = some [d] := rfl
theorem tg2 {is : List Nat} {ds : List D} : (Tgt.tup is).vals (.tuple ds) = if ds.length = is.length then some ds else none := rfl
theorem tx1 : (Tgt.one i).ix = [i] := rfl
theorem tx2 {is : List Nat} : (Tgt.tup is).ix = is := rfl
theorem sv_nil {ds : List D} : setSv sv [] ds = sv := by unfold setSv; rfl
theorem sv_cons {is : List Nat} {ds : List D} : setSv sv (i :: is) (d :: ds) = setSv (sv.set i (some (.d d))) is ds := rfl
theorem dn_nil {ds : List D} : setDs env [] ds = env := by unfold setDs; rfl
theorem dn_cons {is : List Nat} {ds : List D} : setDs env (i :: is) (d :: ds) = setDs (env.set i (some d)) is ds := rfl
theorem wd_nil : wipeD env [] = env := rfl
theorem wd_cons {is : List Nat} : wipeD env (i :: is) = (wipeD env is).set i none := rfl
theorem so_list {xs : List D} : seqOf (.list xs) = some xs := rfl
theorem so_tup {xs : List D} : seqOf (.tuple xs) = some xs := rfl
theorem ro_int {k : Int} : rangeOf (.int k) = if k ≤ 1000000000 ∧ -1000000000 ≤ k then some (rangeD 0 k.toNat) else none := (rfl)
theorem ng_int {k : Int} : negD (.int k) = some (.int (-k)) := rfl
theorem ap_own {xs : List D} : appV i sv d (some (.own xs)) = if flat d = true ∧ xs.length < lim then some (.nx (sv.set i (some (.own (xs ++ [d]))))) else none := rfl
theorem in_own {xs : List D} {j : Int} : insV i sv d (.int j) (some (.own xs)) = if flat d = true ∧ xs.length < lim ∧ 0 ≤ j ∧ j ≤ 1000000 then some (.nx (sv.set i (some (.own (xs.take j.toNat ++ [d] ++ xs.drop j.toNat))))) else none := rfl
theorem au_int {q : AOp} {m n : Int} : augV i q sv (some (.d (.int m))) (.int n) = some (.nx (sv.set i (some (.d (.int (q.f m n)))))) := rfl
theorem au_add {m n : Int} : AOp.add.f m n = m + n := rfl
theorem au_sub {m n : Int} : AOp.sub.f m n = m - n := rfl
theorem tv_bool {p : Bool} : truD (.bool p) = some p := rfl
theorem tv_list {xs : List D} : truD (.list xs) = some (!xs.isEmpty) := rfl
theorem tv_int {n : Int} : truD (.int n) = some (n != 0) := rfl
theorem lim_eq : lim = 100000 := rfl
end
section
variable {F : List Sem1} {sv : SE} {i j : Nat} {js : List Nat} {bd : SE → Option AR}
theorem r_forAl {b : List Sem1 → SE → Option AR} {els : DenS} (h : ((js.all fun j => isOwn sv[j]?) && (js.all fun j => i != j) && decide (i < sv.length) && decide (js.length ≤ 1000)) = true) : sForAl js i b els F sv = forA (b F) i js sv := by
  rw [Bool.and_eq_true, Bool.and_eq_true, Bool.and_eq_true] at h
  unfold sForAl
  rw [if_pos ⟨h.1.1.1, h.1.1.2, of_decide_eq_true h.1.2, Nat.le_trans (of_decide_eq_true h.2) (by rw [lim_eq]; omega)⟩]
def faK (bd : SE → Option AR) (i j : Nat) (js : List Nat) (sv : SE) : AR → Option Fl
  | .go ys => forA bd i js ((sv.set j (some (.own ys))).set i none)
  | .ret d fr => some (.ret d fr)
def faV (bd : SE → Option AR) (i j : Nat) (js : List Nat) (sv : SE) : Option (Option Sv) → Option Fl
  | some (some (.own xs)) => (bd ((sv.set j none).set i (some (.own xs)))).bind (faK bd i j js sv)
  | _ => none
theorem fa_nil : forA bd i [] sv = some (.nx sv) := rfl
theorem fa_cons : forA bd i (j :: js) sv = faV bd i j js sv sv[j]? := by
  unfold forA
  cases sv[j]? with
  | none => rfl
  | some o =>
    cases o with
    | none => rfl
    | some v =>
      cases v with
      | d x => rfl
      | ownK ks => rfl
      | own xs =>
        show (match bd ((sv.set j none).set i (some (.own xs))) with
          | some (.go ys) => forA bd i js ((sv.set j (some (.own ys))).set i none)
          | some (.ret d fr) => some (.ret d fr)
          | none => none) = (bd ((sv.set j none).set i (some (.own xs)))).bind (faK bd i j js sv)
        cases bd ((sv.set j none).set i (some (.own xs))) with
        | none => rfl
        | some a => cases a <;> rfl
theorem fav_own {xs : List D} : faV bd i j js sv (some (some (.own xs))) = (bd ((sv.set j none).set i (some (.own xs)))).bind (faK bd i j js sv) := rfl
theorem fak_go {ys : List D} : faK bd i j js sv (.go ys) = forA bd i js ((sv.set j (some (.own ys))).set i none) := rfl
def lkO : Option (Option Sv) → Option AR
  | some (some (.own xs)) => some (.go xs)
  | _ => none
theorem lk_own {xs : List D} : lkO (some (some (.own xs))) = some (.go xs) := rfl
theorem bl_false {t : DenT} {b : DenS} (h : t F (thawS sv) = some false) : bLook i t b F sv = lkO sv[i]? := by
  unfold bLook
  rw [h]
  cases sv[i]? with
  | none => rfl
  | some o =>
    cases o with
    | none => rfl
    | some v => cases v <;> rfl
def bpV : Option Sv → D → Option AR
  | some (.own xs), d => if flat d = true ∧ xs.length < lim then some (.go (xs ++ [d])) else none
  | _, _ => none
theorem bp_own {xs : List D} {d : D} : bpV (some (.own xs)) d = if flat d = true ∧ xs.length < lim then some (.go (xs ++ [d])) else none := rfl
theorem bp_eq {e : Den} : bPush i e F sv = (sv[i]?).bind fun o => (e F (thawS sv)).bind (bpV o) := by
  unfold bPush
  cases sv[i]? with
  | none => rfl
  | some o =>
    cases e F (thawS sv) with
    | none => cases o with
      | none => rfl
      | some v => cases v <;> rfl
    | some d => cases o with
      | none => rfl
      | some v => cases v <;> rfl
end
end PU
set_option backward.match.sparseCases false
namespace PU
open PySem PySem.Spec PyProof.Rows L2

abbrev Rw := List (Int × Int)
def pr (p : Int × Int) : D := .tuple [.int p.1, .int p.2]
theorem fl_pr (p : Int × Int) : flat (pr p) = true := by
  show flat (.tuple [.int p.1, .int p.2]) = true
  rw [fl_tup, fls_cons, fls_cons, fls_nil]
  rfl
theorem fls_pr (rows : Rw) : flats (rows.map pr) = true := fls_map fl_pr rows
theorem ix_pr0 (p : Int × Int) : ixD (pr p) (.int 0) = some (.int p.1) := at0
theorem ix_pr1 (p : Int × Int) : ixD (pr p) (.int 1) = some (.int p.2) := at1
theorem tg_pr {i j : Nat} (p : Int × Int) : (Tgt.tup [i, j]).vals (pr p) = some [.int p.1, .int p.2] := rfl
def leP (p q : Int × Int) : Bool := decide (p.1 < q.1 ∨ (p.1 = q.1 ∧ p.2 ≤ q.2))
theorem alike_pr (p q : Int × Int) : PySem.W.alike (pr p) (pr q) = true := by
  unfold pr
  rw [PySem.W.alike, PySem.W.alikeAll, PySem.W.alikeAll, PySem.W.alikeAll]
  · simp [PySem.W.alike]
  all_goals simp
theorem can_pr (p : Int × Int) : (PyData.canLay0 (pr p) && decide ((pr p).depth ≤ 32)) = true := by
  unfold pr
  simp [PyData.canLay0, PyData.canLayAll0, PyData.depth, PyData.depthAll]
theorem sortB_pr {rows : Rw} (h : rows.length ≤ lim) : sortB (rows.map pr) = true := by
  unfold sortB
  rw [Bool.and_eq_true, Bool.and_eq_true, Bool.and_eq_true]
  refine ⟨⟨⟨?_, ?_⟩, ?_⟩, ?_⟩
  · rw [List.all_map, List.all_eq_true]
    intro p _
    show (rows.map pr).all (fun e => PySem.W.alike (pr p) e) = true
    rw [List.all_map, List.all_eq_true]
    intro q _
    exact alike_pr p q
  · rw [Bool.or_eq_true]
    refine .inl ?_
    rw [List.all_map, List.all_eq_true]
    intro p _
    rfl
  · rw [List.all_map, List.all_eq_true]
    intro p _
    exact can_pr p
  · rw [List.length_map]
    exact decide_eq_true h
theorem sortD_pr (rows : Rw) : sortD (rows.map pr) = (rows.mergeSort leP).map pr := by
  unfold sortD
  refine (List.map_mergeSort (f := pr) (r := leP) (s := PySem.W.dataLe false id) fun p _ q _ => ?_).symm
  have e := congrFun (congrFun (PySem.W.dataLe_ii (β := Int × Int) (fun p => p.1) (fun p => p.2)) p) q
  exact e.symm
theorem shaped_rows (rows : Rw) : SeqAt.shaped (.list (rows.map pr)) = true := by
  unfold SeqAt.shaped
  rw [PyData.canLay0, PyData.depth, Bool.and_eq_true]
  have h1 : ∀ rows : Rw, PyData.canLayAll0 (rows.map pr) = true := fun rows => by
    induction rows with
    | nil => rw [List.map_nil, PyData.canLayAll0]
    | cons p r ih =>
      rw [List.map_cons, PyData.canLayAll0, ih, Bool.and_true]
      unfold pr
      simp [PyData.canLay0, PyData.canLayAll0]
  have h2 : ∀ rows : Rw, PyData.depthAll (rows.map pr) ≤ 1 := fun rows => by
    induction rows with
    | nil => rw [List.map_nil, PyData.depthAll]; exact Nat.zero_le _
    | cons p r ih =>
      rw [List.map_cons, PyData.depthAll]
      have : (pr p).depth ≤ 1 := by
        unfold pr
        simp [PyData.depth, PyData.depthAll]
      omega
  refine ⟨h1 rows, decide_eq_true ?_⟩
  have := h2 rows
  omega
theorem eqv_pr (p q : Int × Int) : PyData.eqv (pr p) (pr q) = decide (p = q) := by
  obtain ⟨a, b⟩ := p
  obtain ⟨c, d⟩ := q
  unfold pr
  simp only [PyData.eqv, PyData.eqvAll, Bool.and_true]
  rw [Bool.eq_iff_iff]
  simp
theorem eqv_rows : ∀ r s : Rw, PyData.eqv (.list (r.map pr)) (.list (s.map pr)) = decide (r = s) := fun r s => by
  rw [PyData.eqv]
  induction r generalizing s with
  | nil =>
    cases s with
    | nil => rw [List.map_nil, PyData.eqvAll]; rfl
    | cons q s => rw [List.map_nil, List.map_cons, PyData.eqvAll]; rfl
  | cons p r ih =>
    cases s with
    | nil => rw [List.map_nil, List.map_cons, PyData.eqvAll]; rfl
    | cons q s =>
      rw [List.map_cons, List.map_cons, PyData.eqvAll, ih, eqv_pr]
      rw [Bool.eq_iff_iff]
      simp
theorem eq_rows (r s : Rw) : opD .eq (.list (r.map pr)) (.list (s.map pr)) = some (.bool (decide (r = s))) := by
  rw [o_eqD (shaped_rows r) (shaped_rows s), eqv_rows]
theorem ne_rows (r s : Rw) : opD .ne (.list (r.map pr)) (.list (s.map pr)) = some (.bool (!decide (r = s))) := by
  rw [o_neD (shaped_rows r) (shaped_rows s), eqv_rows]

def IsSet (days : Rw) : Prop := days.Pairwise (fun p q => p.2 < q.1) ∧ ∀ p ∈ days, p.1 < p.2
def Mem (d : Int) (rows : Rw) : Prop := ∃ p ∈ rows, p.1 ≤ d ∧ d < p.2
theorem mem_nil {d : Int} : ¬ Mem d [] := fun ⟨p, h, _⟩ => by simp at h
theorem mem_cons {d : Int} {p : Int × Int} {r : Rw} : Mem d (p :: r) ↔ (p.1 ≤ d ∧ d < p.2) ∨ Mem d r := by
  constructor
  · rintro ⟨q, h, h1, h2⟩
    rcases List.mem_cons.mp h with rfl | h
    · exact .inl ⟨h1, h2⟩
    · exact .inr ⟨q, h, h1, h2⟩
  · rintro (⟨h1, h2⟩ | ⟨q, h, h1, h2⟩)
    · exact ⟨p, List.mem_cons_self, h1, h2⟩
    · exact ⟨q, List.mem_cons_of_mem _ h, h1, h2⟩
theorem mem_append {d : Int} {r s : Rw} : Mem d (r ++ s) ↔ Mem d r ∨ Mem d s := by
  constructor
  · rintro ⟨q, h, h1, h2⟩
    rcases List.mem_append.mp h with h | h
    · exact .inl ⟨q, h, h1, h2⟩
    · exact .inr ⟨q, h, h1, h2⟩
  · rintro (⟨q, h, h1, h2⟩ | ⟨q, h, h1, h2⟩)
    · exact ⟨q, List.mem_append_left _ h, h1, h2⟩
    · exact ⟨q, List.mem_append_right _ h, h1, h2⟩
theorem mem_congr {d : Int} {r s : Rw} (h : ∀ p, p ∈ r ↔ p ∈ s) : Mem d r ↔ Mem d s :=
  ⟨fun ⟨p, a, b⟩ => ⟨p, (h p).mp a, b⟩, fun ⟨p, a, b⟩ => ⟨p, (h p).mpr a, b⟩⟩
theorem mem_reverse {d : Int} {r : Rw} : Mem d r.reverse ↔ Mem d r := mem_congr fun p => List.mem_reverse
instance decMem (d : Int) (rows : Rw) : Decidable (Mem d rows) := by
  unfold Mem
  infer_instance
/-- one more pair, rising: the last one stands at the head -/
def stepR : Rw → Int × Int → Rw
  | [], p => [p]
  | q :: r, p => if p.1 ≤ q.2 then (q.1, max q.2 p.2) :: r else p :: q :: r
theorem stepR_cons (q p : Int × Int) (r : Rw) : stepR (q :: r) p = if p.1 ≤ q.2 then (q.1, max q.2 p.2) :: r else p :: q :: r := rfl
theorem stepR_len (r : Rw) (p : Int × Int) : (stepR r p).length ≤ r.length + 1 := by
  cases r with
  | nil => exact Nat.le_refl _
  | cons q r =>
    rw [stepR_cons]
    split
    · exact Nat.le_succ _
    · exact Nat.le_refl _
def gather (rows : Rw) : Rw := (rows.foldl stepR []).reverse
def good (rows : Rw) : Rw := rows.filter fun p => decide (p.1 < p.2)
def tidyL (rows : Rw) : Rw := gather ((good rows).mergeSort leP)
theorem leP_trans (a b c : Int × Int) (h1 : leP a b = true) (h2 : leP b c = true) : leP a c = true := by
  unfold leP at *
  have h1 := of_decide_eq_true h1
  have h2 := of_decide_eq_true h2
  refine decide_eq_true ?_
  omega
theorem leP_total (a b : Int × Int) : (leP a b || leP b a) = true := by
  unfold leP
  rw [Bool.or_eq_true, decide_eq_true_eq, decide_eq_true_eq]
  omega
theorem leP_anti {a b : Int × Int} (h1 : leP a b = true) (h2 : leP b a = true) : a = b := by
  unfold leP at *
  have h1 := of_decide_eq_true h1
  have h2 := of_decide_eq_true h2
  have e1 : a.1 = b.1 := by omega
  have e2 : a.2 = b.2 := by omega
  exact Prod.ext e1 e2
/-- behind the pairs gathered so far: a set, its last at the head -/
def RevSet (r : Rw) : Prop := r.Pairwise (fun p q => q.2 < p.1) ∧ ∀ p ∈ r, p.1 < p.2
theorem step_set {r : Rw} {p : Int × Int} (h : RevSet r) (hp : p.1 < p.2) (hq : ∀ q ∈ r, q.1 ≤ p.1) : RevSet (stepR r p) ∧ (∀ q ∈ stepR r p, q.1 ≤ p.1) ∧ ∀ d, Mem d (stepR r p) ↔ Mem d r ∨ (p.1 ≤ d ∧ d < p.2) := by
  cases r with
  | nil =>
    refine ⟨⟨List.pairwise_singleton _ _, fun q hm => ?_⟩, fun q hm => ?_, fun d => ?_⟩
    · have e : q = p := by simpa [stepR] using hm
      subst e
      exact hp
    · have e : q = p := by simpa [stepR] using hm
      subst e
      omega
    · show Mem d [p] ↔ _
      rw [mem_cons]
      constructor
      · rintro (h | h)
        · exact .inr h
        · exact .inl h
      · rintro (h | h)
        · exact .inr h
        · exact .inl h
  | cons q r =>
    obtain ⟨hpw, hlt⟩ := h
    have hpw' := List.pairwise_cons.mp hpw
    have q1 := hq q List.mem_cons_self
    have q2 := hlt q List.mem_cons_self
    rw [stepR_cons]
    split
    · rename_i hle
      refine ⟨⟨List.pairwise_cons.mpr ⟨fun s hs => hpw'.1 s hs, hpw'.2⟩, fun s hs => ?_⟩, fun s hs => ?_, fun d => ?_⟩
      · rcases List.mem_cons.mp hs with rfl | hs
        · show q.1 < max q.2 p.2
          omega
        · exact hlt s (List.mem_cons_of_mem _ hs)
      · rcases List.mem_cons.mp hs with rfl | hs
        · exact q1
        · exact hq s (List.mem_cons_of_mem _ hs)
      · rw [mem_cons, mem_cons]
        show (q.1 ≤ d ∧ d < max q.2 p.2) ∨ Mem d r ↔ _
        constructor
        · rintro (h | h)
          · by_cases hd : d < q.2
            · exact .inl (.inl ⟨h.1, hd⟩)
            · exact .inr ⟨by omega, by omega⟩
          · exact .inl (.inr h)
        · rintro ((h | h) | h)
          · exact .inl ⟨h.1, by omega⟩
          · exact .inr h
          · exact .inl ⟨by omega, by omega⟩
    · rename_i hgt
      refine ⟨⟨List.pairwise_cons.mpr ⟨fun s hs => ?_, hpw⟩, fun s hs => ?_⟩, fun s hs => ?_, fun d => ?_⟩
      · rcases List.mem_cons.mp hs with rfl | hs
        · omega
        · have := hpw'.1 s hs
          omega
      · rcases List.mem_cons.mp hs with rfl | hs
        · exact hp
        · exact hlt s hs
      · rcases List.mem_cons.mp hs with rfl | hs
        · omega
        · exact hq s hs
      · rw [mem_cons]
        constructor
        · rintro (h | h)
          · exact .inr h
          · exact .inl h
        · rintro (h | h)
          · exact .inr h
          · exact .inl h
theorem fold_set : ∀ (rows : Rw) (r : Rw), rows.Pairwise (fun p q => p.1 ≤ q.1) → (∀ p ∈ rows, p.1 < p.2) → RevSet r → (∀ q ∈ r, ∀ p ∈ rows, q.1 ≤ p.1) → RevSet (rows.foldl stepR r) ∧ ∀ d, Mem d (rows.foldl stepR r) ↔ Mem d r ∨ Mem d rows
  | [], r, _, _, h, _ => ⟨h, fun d => ⟨.inl, fun z => z.elim id fun z => absurd z mem_nil⟩⟩
  | p :: rows, r, hs, hg, h, hq => by
    have hs' := List.pairwise_cons.mp hs
    obtain ⟨a, b, c⟩ := step_set h (hg p List.mem_cons_self) fun q hm => hq q hm p List.mem_cons_self
    obtain ⟨u, v⟩ := fold_set rows (stepR r p) hs'.2 (fun z hz => hg z (List.mem_cons_of_mem _ hz)) a fun q hm z hz => by
      have := b q hm
      have := hs'.1 z hz
      omega
    refine ⟨u, fun d => ?_⟩
    rw [List.foldl_cons, v d, c d, mem_cons]
    constructor
    · rintro ((h | h) | h)
      · exact .inl h
      · exact .inr (.inl h)
      · exact .inr (.inr h)
    · rintro (h | h | h)
      · exact .inl (.inl h)
      · exact .inl (.inr h)
      · exact .inr h
theorem rev_set {r : Rw} (h : RevSet r) : IsSet r.reverse := ⟨List.pairwise_reverse.mpr h.1, fun p hp => h.2 p (List.mem_reverse.mp hp)⟩
theorem gather_set {rows : Rw} (hs : rows.Pairwise (fun p q => p.1 ≤ q.1)) (hg : ∀ p ∈ rows, p.1 < p.2) : IsSet (gather rows) ∧ ∀ d, Mem d (gather rows) ↔ Mem d rows := by
  obtain ⟨a, b⟩ := fold_set rows [] hs hg ⟨List.Pairwise.nil, fun p h => by simp at h⟩ fun q h => by simp at h
  refine ⟨rev_set a, fun d => ?_⟩
  unfold gather
  rw [mem_reverse, b d]
  exact ⟨fun z => z.elim (fun z => absurd z mem_nil) id, .inr⟩
theorem mem_good {d : Int} {rows : Rw} : Mem d (good rows) ↔ Mem d rows := by
  constructor
  · rintro ⟨p, h, h1⟩
    exact ⟨p, (List.mem_filter.mp h).1, h1⟩
  · rintro ⟨p, h, h1, h2⟩
    exact ⟨p, List.mem_filter.mpr ⟨h, decide_eq_true (by omega)⟩, h1, h2⟩
theorem sorted_first (rows : Rw) : (rows.mergeSort leP).Pairwise (fun p q => p.1 ≤ q.1) :=
  (List.pairwise_mergeSort leP_trans leP_total rows).imp fun {a b} h => by
    unfold leP at h
    have := of_decide_eq_true h
    omega
theorem tidy_set (rows : Rw) : IsSet (tidyL rows) ∧ ∀ d, Mem d (tidyL rows) ↔ Mem d rows := by
  obtain ⟨a, b⟩ := gather_set (sorted_first (good rows)) fun p hp => of_decide_eq_true (List.mem_filter.mp (List.mem_mergeSort.mp hp)).2
  refine ⟨a, fun d => ?_⟩
  unfold tidyL
  rw [b d, mem_congr (s := good rows) fun p => List.mem_mergeSort, mem_good]
theorem set_cons {p : Int × Int} {r : Rw} (h : IsSet (p :: r)) : IsSet r ∧ p.1 < p.2 ∧ (∀ q ∈ r, p.2 < q.1) ∧ ∀ d, Mem d r → p.2 < d := by
  have h1 := List.pairwise_cons.mp h.1
  refine ⟨⟨h1.2, fun q hq => h.2 q (List.mem_cons_of_mem _ hq)⟩, h.2 p List.mem_cons_self, h1.1, fun d ⟨q, hq, a, b⟩ => ?_⟩
  have := h1.1 q hq
  omega
theorem set_unique : ∀ {a b : Rw}, IsSet a → IsSet b → (∀ d, Mem d a ↔ Mem d b) → a = b
  | [], [], _, _, _ => rfl
  | [], q :: s, _, hb, h => by
    have z := set_cons hb
    exact absurd ((h q.1).mpr (mem_cons.mpr (.inl ⟨Int.le_refl _, z.2.1⟩))) mem_nil
  | p :: r, [], ha, _, h => by
    have z := set_cons ha
    exact absurd ((h p.1).mp (mem_cons.mpr (.inl ⟨Int.le_refl _, z.2.1⟩))) mem_nil
  | p :: r, q :: s, ha, hb, h => by
    obtain ⟨a1, a2, a3, a4⟩ := set_cons ha
    obtain ⟨b1, b2, b3, b4⟩ := set_cons hb
    have e1 : p.1 = q.1 := by
      have x1 := mem_cons.mp ((h p.1).mp (mem_cons.mpr (.inl ⟨Int.le_refl _, a2⟩)))
      have x2 := mem_cons.mp ((h q.1).mpr (mem_cons.mpr (.inl ⟨Int.le_refl _, b2⟩)))
      rcases x1 with x1 | x1
      · rcases x2 with x2 | x2
        · omega
        · have := a4 _ x2
          omega
      · have := b4 _ x1
        rcases x2 with x2 | x2
        · omega
        · have := a4 _ x2
          omega
    have e2 : p.2 = q.2 := by
      rcases Int.lt_trichotomy p.2 q.2 with c | c | c
      · have x := mem_cons.mp ((h p.2).mpr (mem_cons.mpr (.inl ⟨by omega, c⟩)))
        rcases x with x | x
        · omega
        · have := a4 _ x
          omega
      · exact c
      · have x := mem_cons.mp ((h q.2).mp (mem_cons.mpr (.inl ⟨by omega, c⟩)))
        rcases x with x | x
        · omega
        · have := b4 _ x
          omega
    have e : p = q := Prod.ext e1 e2
    subst e
    have ih : r = s := set_unique a1 b1 fun d => by
      constructor
      · intro m
        have l := a4 _ m
        rcases mem_cons.mp ((h d).mp (mem_cons.mpr (.inr m))) with x | x
        · omega
        · exact x
      · intro m
        have l := b4 _ m
        rcases mem_cons.mp ((h d).mpr (mem_cons.mpr (.inr m))) with x | x
        · omega
        · exact x
    rw [ih]
theorem tidy_iff (rows : Rw) : tidyL rows = rows ↔ IsSet rows :=
  ⟨fun e => by
    have z := (tidy_set rows).1
    rw [e] at z
    exact z, fun h => set_unique (tidy_set rows).1 h (tidy_set rows).2⟩
theorem q_lc {F : List Sem1} {env : DE} {own : List Nat} {tgt : Tgt} {it : DenA} {t : DenT} {e : Den} : eLc own tgt it t e F env = (it F env).bind fun xs => if xs.length ≤ lim then (lcD (lcTurn tgt own t e F env) xs).map PyData.list else none := by
  unfold eLc
  cases it F env with
  | none => rfl
  | some xs =>
    show (if xs.length ≤ lim then (match lcD (lcTurn tgt own t e F env) xs with
      | some ys => some (PyData.list ys)
      | none => none) else none) = if xs.length ≤ lim then (lcD (lcTurn tgt own t e F env) xs).map PyData.list else none
    cases lcD (lcTurn tgt own t e F env) xs <;> rfl
theorem q_turn {F : List Sem1} {env : DE} {own : List Nat} {tgt : Tgt} {t : DenT} {e : Den} {x : D} : lcTurn tgt own t e F env x = (tgt.vals x).bind fun vs => (t F (setDs (wipeD env own) tgt.ix vs)).bind fun k => if k = true then (e F (setDs (wipeD env own) tgt.ix vs)).map some else some none := by
  unfold lcTurn
  cases tgt.vals x with
  | none => rfl
  | some vs =>
    show (match t F (setDs (wipeD env own) tgt.ix vs) with
      | none => none
      | some false => some none
      | some true => match e F (setDs (wipeD env own) tgt.ix vs) with
        | some d => some (some d)
        | none => none) = (t F (setDs (wipeD env own) tgt.ix vs)).bind _
    cases t F (setDs (wipeD env own) tgt.ix vs) with
    | none => rfl
    | some k =>
      cases k with
      | false => rfl
      | true => cases e F (setDs (wipeD env own) tgt.ix vs) <;> rfl
theorem lcD_map {α : Type} {f : D → Option (Option D)} {g h : α → D} {p : α → Bool} : ∀ {zs : List α}, (∀ z ∈ zs, f (g z) = some (if p z = true then some (h z) else none)) → lcD f (zs.map g) = some ((zs.filter p).map h)
  | [], _ => rfl
  | z :: zs, hz => by
    have ih := lcD_map (zs := zs) fun y hy => hz y (List.mem_cons_of_mem _ hy)
    have h1 := hz z List.mem_cons_self
    rw [List.map_cons]
    unfold lcD
    rw [ih, h1, List.filter_cons]
    cases hp : p z with
    | true => rfl
    | false => rfl
theorem lcD_all {α : Type} {f : D → Option (Option D)} {g h : α → D} : ∀ {zs : List α}, (∀ z ∈ zs, f (g z) = some (some (h z))) → lcD f (zs.map g) = some (zs.map h)
  | [], _ => rfl
  | z :: zs, hz => by
    have ih := lcD_all (zs := zs) fun y hy => hz y (List.mem_cons_of_mem _ hy)
    have h1 := hz z List.mem_cons_self
    rw [List.map_cons]
    unfold lcD
    rw [ih, h1]
    rfl
theorem sorted_r {xs : List D} : semSorted.run [.list xs] = if sortB xs = true then some (.list (sortD xs)) else none := rfl
theorem ixN_last (n : Nat) : ixN (n + 1) (-1) = some n := by
  unfold ixN
  rw [if_neg (by omega), if_pos (by omega)]
  congr 1
  omega
def okB (rows : Rw) (j : Nat) : Bool := match rows[j]? with
  | some p => decide (p.1 < p.2) && (match j with
    | 0 => true
    | k + 1 => match rows[k]? with
      | some q => decide (q.2 < p.1)
      | none => true)
  | none => true
theorem set_snoc {a : Rw} {p : Int × Int} : IsSet (a ++ [p]) ↔ IsSet a ∧ p.1 < p.2 ∧ ∀ q ∈ a, q.2 < p.1 := by
  constructor
  · rintro ⟨h1, h2⟩
    have z := List.pairwise_append.mp h1
    exact ⟨⟨z.1, fun q hq => h2 q (List.mem_append_left _ hq)⟩, h2 p (List.mem_append_right _ List.mem_cons_self), fun q hq => z.2.2 q hq p List.mem_cons_self⟩
  · rintro ⟨⟨h1, h2⟩, h3, h4⟩
    refine ⟨List.pairwise_append.mpr ⟨h1, List.pairwise_singleton _ _, fun q hq s hs => ?_⟩, fun q hq => ?_⟩
    · have e : s = p := by simpa using hs
      subst e
      exact h4 q hq
    · rcases List.mem_append.mp hq with h | h
      · exact h2 q h
      · have e : q = p := by simpa using h
        subst e
        exact h3
theorem okB_take (rows : Rw) : ∀ i, i ≤ rows.length → (((List.range i).all (okB rows)) = true ↔ IsSet (rows.take i))
  | 0, _ => ⟨fun _ => ⟨by rw [List.take_zero]; exact List.Pairwise.nil, fun p h => by rw [List.take_zero] at h; simp at h⟩, fun _ => rfl⟩
  | i + 1, hi => by
    have ih := okB_take rows i (by omega)
    have hlt : i < rows.length := by omega
    have e1 : rows[i]? = some rows[i] := List.getElem?_eq_getElem hlt
    have et : rows.take (i + 1) = rows.take i ++ [rows[i]] := by rw [List.take_succ, e1]; rfl
    rw [List.range_succ, List.all_append, Bool.and_eq_true, ih, et, set_snoc]
    have e2 : ([i].all (okB rows) = true) ↔ okB rows i = true := by simp
    rw [e2]
    unfold okB
    rw [e1]
    show (_ ∧ (decide (rows[i].1 < rows[i].2) && _) = true) ↔ _
    rw [Bool.and_eq_true, decide_eq_true_eq]
    constructor
    · rintro ⟨hs, h1, h2⟩
      refine ⟨hs, h1, ?_⟩
      cases i with
      | zero => intro q hq; rw [List.take_zero] at hq; simp at hq
      | succ k =>
        have hk : k < rows.length := by omega
        have ek : rows[k]? = some rows[k] := List.getElem?_eq_getElem hk
        have h2 : (match rows[k]? with
          | some q => decide (q.2 < rows[k + 1].1)
          | none => true) = true := h2
        rw [ek] at h2
        have h2 := of_decide_eq_true h2
        have et : rows.take (k + 1) = rows.take k ++ [rows[k]] := by rw [List.take_succ, ek]; rfl
        rw [et] at hs ⊢
        obtain ⟨a, b, c⟩ := set_snoc.mp hs
        intro q hq
        rcases List.mem_append.mp hq with h | h
        · have := c q h
          omega
        · have e : q = rows[k] := by simpa using h
          rw [e]
          exact h2
    · rintro ⟨hs, h1, h2⟩
      refine ⟨hs, h1, ?_⟩
      cases i with
      | zero => rfl
      | succ k =>
        have hk : k < rows.length := by omega
        have ek : rows[k]? = some rows[k] := List.getElem?_eq_getElem hk
        show (match rows[k]? with
          | some q => decide (q.2 < rows[k + 1].1)
          | none => true) = true
        rw [ek]
        refine decide_eq_true (h2 _ ?_)
        rw [List.take_succ, ek]
        exact List.mem_append_right _ List.mem_cons_self
theorem okB_zero {rows : Rw} {p : Int × Int} (h : rows[0]? = some p) : okB rows 0 = decide (p.1 < p.2) := by
  unfold okB
  rw [h]
  show (decide (p.1 < p.2) && true) = _
  rw [Bool.and_true]
theorem okB_succ {rows : Rw} {k : Nat} {p q : Int × Int} (h : rows[k + 1]? = some p) (h2 : rows[k]? = some q) : okB rows (k + 1) = (decide (p.1 < p.2) && decide (q.2 < p.1)) := by
  unfold okB
  rw [h]
  show (decide (p.1 < p.2) && (match rows[k]? with
    | some q => decide (q.2 < p.1)
    | none => true)) = _
  rw [h2]
theorem okB_bad {rows : Rw} {i : Nat} {p : Int × Int} (h : rows[i]? = some p) (hp : p.2 ≤ p.1) : okB rows i = false := by
  unfold okB
  rw [h]
  show (decide (p.1 < p.2) && _) = _
  rw [decide_eq_false (by omega), Bool.false_and]
theorem okB_set (rows : Rw) : ((List.range rows.length).all (okB rows)) = decide (tidyL rows = rows) := by
  have h := okB_take rows rows.length (Nat.le_refl _)
  rw [List.take_length] at h
  rw [Bool.eq_iff_iff, h, decide_eq_true_eq, tidy_iff]
theorem range_from (lo : Int) (n : Nat) : rangeD lo n = (List.range' 0 n).map fun i => PyData.int (lo + (i : Nat)) := by
  unfold rangeD
  rw [List.range_eq_range']
theorem pick_pr {rows : Rw} {i : Int} (h0 : 0 ≤ i) (h1 : i < (rows.length : Int)) : ∃ p, p ∈ rows ∧ atI (rows.map pr) i = some (pr p) ∧ rows[i.toNat]? = some p := by
  obtain ⟨m, rfl⟩ : ∃ m : Nat, i = (m : Int) := ⟨i.toNat, by omega⟩
  have hm : m < rows.length := by omega
  refine ⟨rows[m], List.getElem_mem hm, ?_, ?_⟩
  · rw [atN, List.getElem?_map, List.getElem?_eq_getElem hm]
    rfl
  · rw [Int.toNat_natCast]
    exact List.getElem?_eq_getElem hm
end PU
set_option backward.match.sparseCases false
namespace PU
open PySem PySem.Spec PyProof.Rows L2
def comm : Rw → Rw → Rw
  | p :: r, q :: s => (if max p.1 q.1 < min p.2 q.2 then [(max p.1 q.1, min p.2 q.2)] else []) ++ (if p.2 = min p.2 q.2 then comm r (q :: s) else comm (p :: r) s)
  | _, _ => []
termination_by a b => a.length + b.length
theorem comm_nil_l (b : Rw) : comm [] b = [] := by
  cases b <;> rw [comm] <;> simp
theorem comm_nil_r (a : Rw) : comm a [] = [] := by
  cases a <;> rw [comm] <;> simp
theorem comm_cons (p q : Int × Int) (r s : Rw) : comm (p :: r) (q :: s) = (if max p.1 q.1 < min p.2 q.2 then [(max p.1 q.1, min p.2 q.2)] else []) ++ (if p.2 = min p.2 q.2 then comm r (q :: s) else comm (p :: r) s) := by
  rw [comm]
theorem set_mk {p : Int × Int} {r : Rw} (h : IsSet r) (hp : p.1 < p.2) (hq : ∀ q ∈ r, p.2 < q.1) : IsSet (p :: r) :=
  ⟨List.pairwise_cons.mpr ⟨hq, h.1⟩, fun q hm => by
    rcases List.mem_cons.mp hm with rfl | hm
    · exact hp
    · exact h.2 q hm⟩
theorem set_nil : IsSet [] := ⟨List.Pairwise.nil, fun p h => by simp at h⟩
theorem comm_low {x : Int} : ∀ (n : Nat) (a b : Rw), a.length + b.length ≤ n → ((∀ p ∈ a, x ≤ p.1) ∨ (∀ p ∈ b, x ≤ p.1)) → ∀ z ∈ comm a b, x ≤ z.1
  | _, [], b, _, _ => fun z hz => by rw [comm_nil_l] at hz; simp at hz
  | _, p :: r, [], _, _ => fun z hz => by rw [comm_nil_r] at hz; simp at hz
  | 0, p :: r, q :: s, hn, _ => by simp at hn
  | n + 1, p :: r, q :: s, hn, h => fun z hz => by
    rw [comm_cons] at hz
    simp only [List.length_cons] at hn
    rcases List.mem_append.mp hz with hz | hz
    · split at hz
      · have e : z = (max p.1 q.1, min p.2 q.2) := by simpa using hz
        subst e
        show x ≤ max p.1 q.1
        rcases h with h | h
        · have := h p List.mem_cons_self
          omega
        · have := h q List.mem_cons_self
          omega
      · simp at hz
    · split at hz
      · exact comm_low n r (q :: s) (by simp only [List.length_cons]; omega) (h.imp (fun h p hp => h p (List.mem_cons_of_mem _ hp)) id) z hz
      · exact comm_low n (p :: r) s (by simp only [List.length_cons]; omega) (h.imp id (fun h p hp => h p (List.mem_cons_of_mem _ hp))) z hz
theorem comm_set' : ∀ (n : Nat) (a b : Rw), a.length + b.length ≤ n → IsSet a → IsSet b → IsSet (comm a b) ∧ ∀ d, Mem d (comm a b) ↔ Mem d a ∧ Mem d b
  | _, [], b, _, _, _ => by
    rw [comm_nil_l]
    exact ⟨set_nil, fun d => ⟨fun h => absurd h mem_nil, fun h => absurd h.1 mem_nil⟩⟩
  | _, p :: r, [], _, _, _ => by
    rw [comm_nil_r]
    exact ⟨set_nil, fun d => ⟨fun h => absurd h mem_nil, fun h => absurd h.2 mem_nil⟩⟩
  | 0, p :: r, q :: s, hn, _, _ => by simp at hn
  | n + 1, p :: r, q :: s, hn, ha, hb => by
    simp only [List.length_cons] at hn
    obtain ⟨a1, a2, a3, a4⟩ := set_cons ha
    obtain ⟨b1, b2, b3, b4⟩ := set_cons hb
    rw [comm_cons]
    by_cases hc : p.2 = min p.2 q.2
    · rw [if_pos hc]
      obtain ⟨i1, i2⟩ := comm_set' n r (q :: s) (by simp only [List.length_cons]; omega) a1 hb
      have low := comm_low (x := p.2 + 1) n r (q :: s) (by simp only [List.length_cons]; omega) (.inl fun z hz => by have := a3 z hz; omega)
      by_cases hf : max p.1 q.1 < min p.2 q.2
      · rw [if_pos hf]
        refine ⟨set_mk i1 hf fun z hz => ?_, fun d => ?_⟩
        · have := low z hz
          show min p.2 q.2 < z.1
          omega
        · show Mem d ((max p.1 q.1, min p.2 q.2) :: comm r (q :: s)) ↔ _
          rw [mem_cons, mem_cons, i2]
          show (max p.1 q.1 ≤ d ∧ d < min p.2 q.2) ∨ _ ↔ _
          constructor
          · rintro (h | h)
            · exact ⟨.inl ⟨by omega, by omega⟩, mem_cons.mpr (.inl ⟨by omega, by omega⟩)⟩
            · exact ⟨.inr h.1, h.2⟩
          · rintro ⟨h | h, h'⟩
            · rcases mem_cons.mp h' with h' | h'
              · exact .inl ⟨by omega, by omega⟩
              · have := b4 d h'
                omega
            · exact .inr ⟨h, h'⟩
      · rw [if_neg hf, List.nil_append]
        refine ⟨i1, fun d => ?_⟩
        rw [i2, mem_cons]
        constructor
        · rintro h
          exact ⟨mem_cons.mpr (.inr h.1), h.2⟩
        · rintro ⟨h, h'⟩
          rcases mem_cons.mp h with h | h
          · rcases h' with h' | h'
            · omega
            · have := b4 d h'
              omega
          · exact ⟨h, h'⟩
    · rw [if_neg hc]
      obtain ⟨i1, i2⟩ := comm_set' n (p :: r) s (by simp only [List.length_cons]; omega) ha b1
      have low := comm_low (x := q.2 + 1) n (p :: r) s (by simp only [List.length_cons]; omega) (.inr fun z hz => by have := b3 z hz; omega)
      by_cases hf : max p.1 q.1 < min p.2 q.2
      · rw [if_pos hf]
        refine ⟨set_mk i1 hf fun z hz => ?_, fun d => ?_⟩
        · have := low z hz
          show min p.2 q.2 < z.1
          omega
        · show Mem d ((max p.1 q.1, min p.2 q.2) :: comm (p :: r) s) ↔ _
          rw [mem_cons, i2, mem_cons (p := q)]
          show (max p.1 q.1 ≤ d ∧ d < min p.2 q.2) ∨ _ ↔ _
          constructor
          · rintro (h | h)
            · exact ⟨mem_cons.mpr (.inl ⟨by omega, by omega⟩), .inl ⟨by omega, by omega⟩⟩
            · exact ⟨h.1, .inr h.2⟩
          · rintro ⟨h, h' | h'⟩
            · rcases mem_cons.mp h with h | h
              · exact .inl ⟨by omega, by omega⟩
              · have := a4 d h
                omega
            · exact .inr ⟨h, h'⟩
      · rw [if_neg hf, List.nil_append]
        refine ⟨i1, fun d => ?_⟩
        rw [i2, mem_cons (p := q)]
        constructor
        · rintro h
          exact ⟨h.1, .inr h.2⟩
        · rintro ⟨h, h' | h'⟩
          · rcases mem_cons.mp h with h | h
            · omega
            · have := a4 d h
              omega
          · exact ⟨h, h'⟩
theorem comm_set {a b : Rw} (ha : IsSet a) (hb : IsSet b) : IsSet (comm a b) ∧ ∀ d, Mem d (comm a b) ↔ Mem d a ∧ Mem d b := comm_set' _ a b (Nat.le_refl _) ha hb
theorem comm_len : ∀ (n : Nat) (a b : Rw), a.length + b.length ≤ n → (comm a b).length ≤ a.length + b.length
  | _, [], b, _ => by rw [comm_nil_l]; exact Nat.zero_le _
  | _, p :: r, [], _ => by rw [comm_nil_r]; exact Nat.zero_le _
  | 0, p :: r, q :: s, hn => by simp at hn
  | n + 1, p :: r, q :: s, hn => by
    simp only [List.length_cons] at hn
    rw [comm_cons, List.length_append]
    have h1 : (if max p.1 q.1 < min p.2 q.2 then [(max p.1 q.1, min p.2 q.2)] else ([] : Rw)).length ≤ 1 := by
      split
      · exact Nat.le_refl _
      · exact Nat.zero_le _
    by_cases hc : p.2 = min p.2 q.2
    · rw [if_pos hc]
      have := comm_len n r (q :: s) (by simp only [List.length_cons]; omega)
      simp only [List.length_cons] at this ⊢
      omega
    · rw [if_neg hc]
      have := comm_len n (p :: r) s (by simp only [List.length_cons]; omega)
      simp only [List.length_cons] at this ⊢
      omega
theorem set_one {a b : Int} (h : a < b) : IsSet [(a, b)] := set_mk set_nil h fun q hq => by simp at hq
theorem tidy_one (a b : Int) : tidyL [(a, b)] = if a < b then [(a, b)] else [] := by
  split
  · rename_i h
    exact (tidy_iff _).mpr (set_one h)
  · rename_i h
    have e : good [(a, b)] = [] := List.filter_cons_of_neg (by simpa using h)
    unfold tidyL
    rw [e, List.mergeSort_nil]
    rfl
def sumL (rows : Rw) (a b : Int) : Int := (rows.map fun p => max 0 (min p.2 b - max p.1 a)).sum
def lenL (rows : Rw) : Int := (rows.map fun p => p.2 - p.1).sum
theorem sumL_nil (a b : Int) : sumL [] a b = 0 := rfl
theorem lenL_nil : lenL [] = 0 := rfl
theorem sumL_cons (p : Int × Int) (r : Rw) (a b : Int) : sumL (p :: r) a b = max 0 (min p.2 b - max p.1 a) + sumL r a b := by
  unfold sumL
  rw [List.map_cons, List.sum_cons]
theorem lenL_cons (p : Int × Int) (r : Rw) : lenL (p :: r) = p.2 - p.1 + lenL r := by
  unfold lenL
  rw [List.map_cons, List.sum_cons]
theorem lenL_app (r s : Rw) : lenL (r ++ s) = lenL r + lenL s := by
  induction r with
  | nil => rw [List.nil_append, lenL_nil, Int.zero_add]
  | cons p r ih => rw [List.cons_append, lenL_cons, lenL_cons, ih]; omega
theorem sum_zero {a b : Int} : ∀ {r : Rw}, (∀ p ∈ r, b ≤ p.1 ∨ b ≤ a) → sumL r a b = 0
  | [], _ => rfl
  | p :: r, h => by
    have ih := sum_zero (r := r) fun q hq => h q (List.mem_cons_of_mem _ hq)
    have h1 := h p List.mem_cons_self
    rw [sumL_cons, ih]
    omega
theorem clip_len {a b : Int} (hab : a < b) : ∀ {holes : Rw}, IsSet holes → (∀ z ∈ comm holes [(a, b)], a ≤ z.1 ∧ z.2 ≤ b) ∧ lenL (comm holes [(a, b)]) = sumL holes a b
  | [], _ => by
    rw [comm_nil_l]
    exact ⟨fun z hz => by simp at hz, rfl⟩
  | p :: r, h => by
    obtain ⟨a1, a2, a3, a4⟩ := set_cons h
    obtain ⟨i1, i2⟩ := clip_len hab a1
    rw [comm_cons, sumL_cons, lenL_app]
    show (∀ z ∈ (if max p.1 a < min p.2 b then [(max p.1 a, min p.2 b)] else []) ++ (if p.2 = min p.2 b then comm r [(a, b)] else comm (p :: r) []), _) ∧ lenL (if max p.1 a < min p.2 b then [(max p.1 a, min p.2 b)] else []) + lenL (if p.2 = min p.2 b then comm r [(a, b)] else comm (p :: r) []) = _
    have e1 : lenL (if max p.1 a < min p.2 b then [(max p.1 a, min p.2 b)] else []) = max 0 (min p.2 b - max p.1 a) := by
      split
      · rw [lenL_cons, lenL_nil]
        show min p.2 b - max p.1 a + 0 = _
        omega
      · rw [lenL_nil]
        omega
    have e2 : ∀ z ∈ (if max p.1 a < min p.2 b then [(max p.1 a, min p.2 b)] else ([] : Rw)), a ≤ z.1 ∧ z.2 ≤ b := by
      intro z hz
      split at hz
      · have e : z = (max p.1 a, min p.2 b) := by simpa using hz
        subst e
        show a ≤ max p.1 a ∧ min p.2 b ≤ b
        omega
      · simp at hz
    rw [e1]
    by_cases hc : p.2 = min p.2 b
    · rw [if_pos hc]
      refine ⟨fun z hz => (List.mem_append.mp hz).elim (e2 z) (i1 z), by rw [i2]⟩
    · rw [if_neg hc, comm_nil_r, sum_zero fun q hq => by have := a3 q hq; omega]
      refine ⟨fun z hz => (List.mem_append.mp hz).elim (e2 z) fun hz => by simp at hz, rfl⟩
def gapsL : Int → Rw → Int → Rw
  | a, [], b => [(a, b)]
  | a, p :: r, b => (a, p.1) :: gapsL p.2 r b
theorem gaps_good : ∀ (c : Rw) (a b : Int), IsSet c → a ≤ b → (∀ z ∈ c, a ≤ z.1 ∧ z.2 ≤ b) → IsSet (good (gapsL a c b)) ∧ (∀ z ∈ good (gapsL a c b), a ≤ z.1) ∧ lenL (good (gapsL a c b)) = b - a - lenL c
  | [], a, b, _, hab, _ => by
    show IsSet (good [(a, b)]) ∧ (∀ z ∈ good [(a, b)], a ≤ z.1) ∧ lenL (good [(a, b)]) = b - a - 0
    by_cases h : a < b
    · have e : good [(a, b)] = [(a, b)] := List.filter_cons_of_pos (decide_eq_true h)
      rw [e]
      refine ⟨set_one h, fun z hz => ?_, ?_⟩
      · have e : z = (a, b) := by simpa using hz
        subst e
        exact Int.le_refl _
      · rw [lenL_cons, lenL_nil]
        show b - a + 0 = b - a - 0
        omega
    · have e : good [(a, b)] = [] := List.filter_cons_of_neg (by simpa using h)
      rw [e]
      exact ⟨set_nil, fun z hz => by simp at hz, by rw [lenL_nil]; omega⟩
  | p :: r, a, b, hs, hab, hz => by
    obtain ⟨a1, a2, a3, a4⟩ := set_cons hs
    have hp := hz p List.mem_cons_self
    obtain ⟨i1, i2, i3⟩ := gaps_good r p.2 b a1 hp.2 fun z h => ⟨by have := a3 z h; omega, (hz z (List.mem_cons_of_mem _ h)).2⟩
    show IsSet (good ((a, p.1) :: gapsL p.2 r b)) ∧ (∀ z ∈ good ((a, p.1) :: gapsL p.2 r b), a ≤ z.1) ∧ lenL (good ((a, p.1) :: gapsL p.2 r b)) = b - a - lenL (p :: r)
    by_cases h : a < p.1
    · have e : good ((a, p.1) :: gapsL p.2 r b) = (a, p.1) :: good (gapsL p.2 r b) := List.filter_cons_of_pos (decide_eq_true h)
      rw [e, lenL_cons, lenL_cons, i3]
      refine ⟨set_mk i1 h fun q hq => ?_, fun q hq => ?_, ?_⟩
      · have := i2 q hq
        show p.1 < q.1
        omega
      · rcases List.mem_cons.mp hq with rfl | hq
        · exact Int.le_refl _
        · have := i2 q hq
          omega
      · show p.1 - a + _ = _
        omega
    · have e : good ((a, p.1) :: gapsL p.2 r b) = good (gapsL p.2 r b) := List.filter_cons_of_neg (by simpa using h)
      rw [e, lenL_cons, i3]
      refine ⟨i1, fun q hq => ?_, by omega⟩
      have := i2 q hq
      omega
theorem tidy_good {rows : Rw} (h : IsSet (good rows)) : tidyL rows = good rows := set_unique (tidy_set rows).1 h fun d => by rw [(tidy_set rows).2, mem_good]
def clipL (holes : Rw) (a b : Int) : Rw := comm holes (tidyL [(a, b)])
theorem clip_set {holes : Rw} (h : IsSet holes) (a b : Int) : IsSet (clipL holes a b) ∧ ∀ d, Mem d (clipL holes a b) ↔ Mem d holes ∧ a ≤ d ∧ d < b := by
  obtain ⟨i1, i2⟩ := comm_set h (tidy_set [(a, b)]).1
  refine ⟨i1, fun d => ?_⟩
  unfold clipL
  rw [i2, (tidy_set [(a, b)]).2, mem_cons]
  constructor
  · rintro ⟨h, h' | h'⟩
    · exact ⟨h, h'⟩
    · exact absurd h' mem_nil
  · rintro ⟨h, h'⟩
    exact ⟨h, .inl h'⟩
def countL (holes : Rw) (a b : Int) : Int := lenL (tidyL (gapsL a (clipL holes a b) b))
theorem count_eq {holes : Rw} (h : IsSet holes) (a b : Int) : countL holes a b = if a < b then b - a - sumL holes a b else 0 := by
  unfold countL clipL
  rw [tidy_one]
  by_cases hab : a < b
  · rw [if_pos hab, if_pos hab]
    obtain ⟨c1, c2⟩ := clip_len hab h
    obtain ⟨g1, _, g3⟩ := gaps_good (comm holes [(a, b)]) a b (comm_set h (set_one hab)).1 (by omega) c1
    rw [tidy_good g1, g3, c2]
  · rw [if_neg hab, if_neg hab, comm_nil_r]
    show lenL (tidyL [(a, b)]) = 0
    rw [tidy_one, if_neg hab]
    rfl
def reachL : Int → Int → Rw → Int
  | day, left, [] => day + left
  | day, left, p :: r => if left ≤ max 0 (p.1 - day) then day + left else reachL (max day p.2) (left - max 0 (p.1 - day)) r
theorem sum_from {a a' b : Int} : ∀ {r : Rw}, (∀ p ∈ r, max p.1 a = max p.1 a') → sumL r a b = sumL r a' b
  | [], _ => rfl
  | p :: r, h => by
    rw [sumL_cons, sumL_cons, h p List.mem_cons_self, sum_from fun q hq => h q (List.mem_cons_of_mem _ hq)]
theorem reach_eq : ∀ {holes : Rw} (day left : Int), IsSet holes → 0 ≤ left → reachL day left holes - day - sumL holes day (reachL day left holes) = left ∧ (left = 0 → reachL day left holes = day) ∧ (0 < left → day < reachL day left holes ∧ ¬ Mem (reachL day left holes - 1) holes)
  | [], day, left, _, h0 => by
    show day + left - day - 0 = left ∧ (left = 0 → day + left = day) ∧ (0 < left → day < day + left ∧ _)
    exact ⟨by omega, by omega, fun _ => ⟨by omega, mem_nil⟩⟩
  | p :: r, day, left, hs, h0 => by
    obtain ⟨a1, a2, a3, a4⟩ := set_cons hs
    have e : reachL day left (p :: r) = if left ≤ max 0 (p.1 - day) then day + left else reachL (max day p.2) (left - max 0 (p.1 - day)) r := rfl
    rw [e]
    by_cases hc : left ≤ max 0 (p.1 - day)
    · rw [if_pos hc]
      have z : sumL (p :: r) day (day + left) = 0 := sum_zero fun q hq => by
        rcases List.mem_cons.mp hq with rfl | hq
        · omega
        · have := a3 q hq
          omega
      rw [z]
      refine ⟨by omega, by omega, fun h => ⟨by omega, fun m => ?_⟩⟩
      rcases mem_cons.mp m with m | m
      · omega
      · have := a4 _ m
        omega
    · rw [if_neg hc]
      obtain ⟨i1, _, i3⟩ := reach_eq (max day p.2) (left - max 0 (p.1 - day)) a1 (by omega)
      obtain ⟨i4, i5⟩ := i3 (by omega)
      rw [sumL_cons, sum_from (a := day) (a' := max day p.2) fun q hq => by have := a3 q hq; omega]
      refine ⟨by omega, by omega, fun _ => ⟨by omega, fun m => ?_⟩⟩
      rcases mem_cons.mp m with m | m
      · omega
      · exact i5 m
end PU
set_option backward.match.sparseCases false
namespace PU
open PySem PySem.Spec PyProof.Rows L2
def b2i (b : Bool) : Int := if b = true then 1 else 0
def cnt (f : Int → Bool) (lo : Int) : Nat → Int
  | 0 => 0
  | n + 1 => cnt f lo n + b2i (f (lo + n))
theorem cnt_add {f g h k : Int → Bool} (e : ∀ d, b2i (f d) + b2i (g d) = b2i (h d) + b2i (k d)) (lo : Int) : ∀ n : Nat, cnt f lo n + cnt g lo n = cnt h lo n + cnt k lo n
  | 0 => rfl
  | n + 1 => by
    have ih := cnt_add e lo n
    have h1 := e (lo + n)
    show cnt f lo n + b2i (f (lo + n)) + (cnt g lo n + b2i (g (lo + n))) = cnt h lo n + b2i (h (lo + n)) + (cnt k lo n + b2i (k (lo + n)))
    omega
theorem cnt_zero (lo : Int) : ∀ n : Nat, cnt (fun _ => false) lo n = 0
  | 0 => rfl
  | n + 1 => by
    show cnt (fun _ => false) lo n + 0 = 0
    rw [cnt_zero lo n]
    rfl
theorem cnt_span {a b lo : Int} (h1 : lo ≤ a) (h2 : a ≤ b) : ∀ n : Nat, cnt (fun d => decide (a ≤ d ∧ d < b)) lo n = max 0 (min b (lo + n) - a)
  | 0 => by
    show (0 : Int) = max 0 (min b (lo + ((0 : Nat) : Int)) - a)
    omega
  | n + 1 => by
    have ih := cnt_span h1 h2 n
    show cnt _ lo n + b2i (decide (a ≤ lo + (n : Int) ∧ lo + (n : Int) < b)) = max 0 (min b (lo + ((n + 1 : Nat) : Int)) - a)
    rw [ih]
    unfold b2i
    by_cases h : a ≤ lo + (n : Int) ∧ lo + (n : Int) < b
    · rw [if_pos (decide_eq_true h)]
      omega
    · rw [if_neg (by rw [decide_eq_false h]; exact Bool.false_ne_true)]
      omega
theorem lenL_cnt {lo : Int} {n : Nat} : ∀ {rows : Rw}, IsSet rows → (∀ p ∈ rows, lo ≤ p.1 ∧ p.2 ≤ lo + n) → lenL rows = cnt (fun d => decide (Mem d rows)) lo n
  | [], _, _ => by
    have e : (fun d => decide (Mem d [])) = fun _ => false := funext fun d => decide_eq_false mem_nil
    rw [e, cnt_zero]
    rfl
  | p :: r, hs, hb => by
    obtain ⟨a1, a2, a3, a4⟩ := set_cons hs
    have hp := hb p List.mem_cons_self
    have ih := lenL_cnt (lo := lo) (n := n) a1 fun q hq => hb q (List.mem_cons_of_mem _ hq)
    have h1 := cnt_span (lo := lo) hp.1 (Int.le_of_lt a2) n
    have h2 := cnt_add (f := fun d => decide (Mem d (p :: r))) (g := fun _ => false) (h := fun d => decide (p.1 ≤ d ∧ d < p.2)) (k := fun d => decide (Mem d r)) (fun d => by
      have hm := mem_cons (d := d) (p := p) (r := r)
      by_cases c1 : p.1 ≤ d ∧ d < p.2
      · have c2 : ¬ Mem d r := fun m => by
          have := a4 d m
          omega
        rw [decide_eq_true c1, decide_eq_false c2, decide_eq_true (hm.mpr (.inl c1))]
      · by_cases c2 : Mem d r
        · rw [decide_eq_false c1, decide_eq_true c2, decide_eq_true (hm.mpr (.inr c2))]
          rfl
        · rw [decide_eq_false c1, decide_eq_false c2, decide_eq_false fun m => (hm.mp m).elim c1 c2]) lo n
    rw [cnt_zero] at h2
    rw [lenL_cons, ih]
    omega
/-- bounds for some sets at once -/
theorem lo_of : ∀ rows : Rw, ∃ lo : Int, ∀ p ∈ rows, lo ≤ p.1 ∧ lo ≤ p.2 ∧ p.1 ≤ -lo ∧ p.2 ≤ -lo
  | [] => ⟨0, fun p h => by simp at h⟩
  | p :: r => by
    obtain ⟨lo, h⟩ := lo_of r
    refine ⟨min lo (min (min p.1 p.2) (min (-p.1) (-p.2))), fun q hq => ?_⟩
    rcases List.mem_cons.mp hq with rfl | hq
    · omega
    · have := h q hq
      omega
theorem len_of4 {a b c d : Rw} (ha : IsSet a) (hb : IsSet b) (hc : IsSet c) (hd : IsSet d) (e : ∀ x, b2i (decide (Mem x a)) + b2i (decide (Mem x b)) = b2i (decide (Mem x c)) + b2i (decide (Mem x d))) : lenL a + lenL b = lenL c + lenL d := by
  obtain ⟨lo, h⟩ := lo_of (a ++ b ++ c ++ d)
  have hh : ∀ (r : Rw), (∀ p ∈ r, p ∈ a ++ b ++ c ++ d) → ∀ p ∈ r, lo ≤ p.1 ∧ p.2 ≤ lo + ((-lo - lo).toNat : Int) := fun r hr p hp => by
    have := h p (hr p hp)
    omega
  rw [lenL_cnt ha (hh a fun p hp => by simp [hp]), lenL_cnt hb (hh b fun p hp => by simp [hp]), lenL_cnt hc (hh c fun p hp => by simp [hp]), lenL_cnt hd (hh d fun p hp => by simp [hp])]
  exact cnt_add e lo _
theorem gaps_mem {x : Int} : ∀ (c : Rw) (a b : Int), IsSet c → a ≤ b → (∀ z ∈ c, a ≤ z.1 ∧ z.2 ≤ b) → (Mem x (gapsL a c b) ↔ (a ≤ x ∧ x < b) ∧ ¬ Mem x c)
  | [], a, b, _, hab, _ => by
    show Mem x [(a, b)] ↔ _
    rw [mem_cons]
    exact ⟨fun h => h.elim (fun h => ⟨h, mem_nil⟩) fun h => absurd h mem_nil, fun h => .inl h.1⟩
  | p :: r, a, b, hs, hab, hz => by
    obtain ⟨a1, a2, a3, a4⟩ := set_cons hs
    have hp := hz p List.mem_cons_self
    have ih := gaps_mem (x := x) r p.2 b a1 hp.2 fun z h => ⟨by have := a3 z h; omega, (hz z (List.mem_cons_of_mem _ h)).2⟩
    show Mem x ((a, p.1) :: gapsL p.2 r b) ↔ _
    rw [mem_cons, ih, mem_cons]
    show (a ≤ x ∧ x < p.1) ∨ _ ↔ _
    constructor
    · rintro (h | ⟨h, h'⟩)
      · refine ⟨by omega, fun m => m.elim (fun m => by omega) fun m => ?_⟩
        have := a4 x m
        omega
      · exact ⟨by omega, fun m => m.elim (fun m => by omega) h'⟩
    · rintro ⟨h, h'⟩
      by_cases c : x < p.1
      · exact .inl ⟨h.1, c⟩
      · refine .inr ⟨⟨?_, h.2⟩, fun m => h' (.inr m)⟩
        by_cases c2 : p.2 ≤ x
        · exact c2
        · exact absurd (.inl ⟨by omega, by omega⟩) h'
/-- what the first has and the other has not; f and l: where the first begins and ends -/
def partL (a b : Rw) (f l : Int) : Rw := comm a (tidyL (gapsL f (clipL b f l) l))
theorem part_set {a b : Rw} {f l : Int} (ha : IsSet a) (hb : IsSet b) (hfl : f < l) (hr : ∀ p ∈ a, f ≤ p.1 ∧ p.2 ≤ l) : IsSet (partL a b f l) ∧ ∀ x, Mem x (partL a b f l) ↔ Mem x a ∧ ¬ Mem x b := by
  have hin : ∀ z ∈ clipL b f l, f ≤ z.1 ∧ z.2 ≤ l := by
    unfold clipL
    rw [tidy_one, if_pos hfl]
    exact (clip_len hfl hb).1
  obtain ⟨c1, c2⟩ := clip_set hb f l
  obtain ⟨s1, s2⟩ := comm_set ha (tidy_set (gapsL f (clipL b f l) l)).1
  refine ⟨s1, fun x => ?_⟩
  have e := s2 x
  unfold partL
  rw [e, (tidy_set _).2, gaps_mem _ _ _ c1 (Int.le_of_lt hfl) hin, c2]
  constructor
  · rintro ⟨m, h, h'⟩
    exact ⟨m, fun mb => h' ⟨mb, h⟩⟩
  · rintro ⟨m, h⟩
    obtain ⟨p, hp, h1, h2⟩ := m
    have := hr p hp
    exact ⟨⟨p, hp, h1, h2⟩, by omega, fun m => h m.1⟩
theorem join_len {a b : Rw} (ha : IsSet a) (hb : IsSet b) : lenL (tidyL (a ++ b)) + lenL (comm a b) = lenL a + lenL b := by
  obtain ⟨j1, j2⟩ := tidy_set (a ++ b)
  obtain ⟨k1, k2⟩ := comm_set ha hb
  refine len_of4 j1 k1 ha hb fun x => ?_
  have e1 : Mem x (tidyL (a ++ b)) ↔ Mem x a ∨ Mem x b := by rw [j2, mem_append]
  have e2 := k2 x
  by_cases h1 : Mem x a <;> by_cases h2 : Mem x b <;> simp only [decide_eq_true_eq, e1, e2, h1, h2, b2i, or_self, and_self, or_true, true_or, and_true, true_and, and_false, false_and, or_false, false_or, if_true, if_false] <;> simp
theorem part_len {a b c : Rw} (ha : IsSet a) (hb : IsSet b) (hc : IsSet c) (e : ∀ x, Mem x c ↔ Mem x a ∧ ¬ Mem x b) : lenL (comm a b) + lenL c = lenL a := by
  obtain ⟨k1, k2⟩ := comm_set ha hb
  have h := len_of4 k1 hc ha set_nil fun x => by
    have e1 := e x
    have e2 := k2 x
    have e3 : ¬ Mem x [] := mem_nil
    by_cases h1 : Mem x a <;> by_cases h2 : Mem x b <;> simp [e1, e2, e3, h1, h2, b2i]
  rw [lenL_nil] at h
  omega
end PU
set_option backward.match.sparseCases false
namespace PU
open PySem PySem.Spec PyProof.Rows L2

section
variable {F : List Sem1} {env : DE} {sv : SE} {a b c : Den} {i j : Nat} {d x y : D} {kvs : List (Str × D)}
def inTV (kvs : List (Str × D)) (neg : Bool) (x : D) : Option D := if isKey x then some (.bool ((kvs.any fun p => keyEq (.str p.1) x) != neg)) else none
def getTV (kvs : List (Str × D)) (x : D) : Option D := if isKey x then (kvs.find? fun p => keyEq (.str p.1) x).map (·.2) else none
theorem q_inT {neg : Bool} : eInT kvs neg a F env = (a F env).bind (inTV kvs neg) := by
  unfold eInT
  cases a F env <;> rfl
theorem q_getT : eGetT kvs a F env = (a F env).bind (getTV kvs) := by
  unfold eGetT
  cases a F env <;> rfl
theorem it_int {neg : Bool} {n : Int} : inTV kvs neg (.int n) = some (.bool ((kvs.any fun p => keyEq (.str p.1) (.int n)) != neg)) := rfl
theorem it_str {neg : Bool} {z : Str} : inTV kvs neg (.str z) = some (.bool ((kvs.any fun p => keyEq (.str p.1) (.str z)) != neg)) := rfl
theorem gt_str {z : Str} : getTV kvs (.str z) = (kvs.find? fun p => keyEq (.str p.1) (.str z)).map (·.2) := rfl
theorem any_int {n : Int} : (kvs.any fun p => keyEq (.str p.1) (.int n)) = false := by
  induction kvs with
  | nil => rfl
  | cons p r ih => rw [List.any_cons, ih]; rfl
def starV (is : List Nat) (j : Nat) (sv : SE) (d : D) : Option Fl := match seqD d with
  | some ds => if is.length ≤ ds.length ∧ ds.length ≤ lim then some (.nx ((setSv (aft (flat d) sv) is (ds.take is.length)).set j (some (.own (ds.drop is.length))))) else none
  | none => none
theorem r_star {is : List Nat} : sStar is j a F sv = (a F (thawS sv)).bind (starV is j sv) := by
  unfold sStar
  cases a F (thawS sv) <;> rfl
theorem stv_tup {is : List Nat} {ds : List D} : starV is j sv (.tuple ds) = if is.length ≤ ds.length ∧ ds.length ≤ lim then some (.nx ((setSv (aft (flats ds) sv) is (ds.take is.length)).set j (some (.own (ds.drop is.length))))) else none := rfl
theorem stv_list {is : List Nat} {ds : List D} : starV is j sv (.list ds) = if is.length ≤ ds.length ∧ ds.length ≤ lim then some (.nx ((setSv (frzS sv) is (ds.take is.length)).set j (some (.own (ds.drop is.length))))) else none := rfl
theorem q_zip : iZip a b F env = ((a F env).bind seqD).bind fun xs => ((b F env).bind seqD).bind fun ys => some ((xs.zip ys).map fun p => .tuple [p.1, p.2]) := by
  unfold iZip
  cases (a F env).bind seqD with
  | none => rfl
  | some x => cases (b F env).bind seqD <;> rfl
theorem sq_list {xs : List D} : seqD (.list xs) = some xs := rfl
theorem sq_tup {xs : List D} : seqD (.tuple xs) = some xs := rfl
def range2Of (x y : D) : Option (List D) := match x, y with
  | .int lo, .int k => if k ≤ 1000000000 ∧ -1000000000 ≤ k ∧ lo ≤ 1000000000 ∧ -1000000000 ≤ lo then some (rangeD lo (k - lo).toNat) else none
  | _, _ => none
theorem q_range2 : iRange2 a b F env = (a F env).bind fun x => (b F env).bind fun y => range2Of x y := by
  unfold iRange2
  cases a F env with
  | none => rfl
  | some x =>
    cases b F env with
    | none => cases x <;> rfl
    | some y => cases x <;> cases y <;> rfl
theorem r2_int {lo k : Int} : range2Of (.int lo) (.int k) = if k ≤ 1000000000 ∧ -1000000000 ≤ k ∧ lo ≤ 1000000000 ∧ -1000000000 ≤ lo then some (rangeD lo (k - lo).toNat) else none := (rfl)
theorem o_addT {xs ys : List D} (h : xs.length + ys.length ≤ lim) : opD .add (.tuple xs) (.tuple ys) = some (.tuple (xs ++ ys)) := by
  cases xs with
  | nil =>
    show (if ys.length ≤ lim then some (PyData.tuple ys) else none) = _
    rw [if_pos (by simpa using h)]
    rfl
  | cons x xs =>
    show (if xs.length + 1 + ys.length ≤ lim then some (PyData.tuple (x :: (xs ++ ys))) else none) = _
    rw [if_pos (by simpa using h)]
    rfl
theorem sl_tup {xs : List D} {lo hi : Option Int} : slD (.tuple xs) lo hi = some (.tuple (cutD xs lo hi)) := rfl
theorem sh_str {z : Str} (h : PyData.strOk z = true) : SeqAt.shaped (.str z) = true := by unfold SeqAt.shaped; simp [PyData.canLay0, PyData.depth, h]
theorem o_eqS {p q : Str} (hp : PyData.strOk p = true) (hq : PyData.strOk q = true) : opD .eq (.str p) (.str q) = some (.bool (decide (p = q))) := by
  rw [o_eqD (sh_str hp) (sh_str hq), PyData.eqv, Bool.beq_eq_decide_eq]
theorem o_neS {p q : Str} (hp : PyData.strOk p = true) (hq : PyData.strOk q = true) : opD .ne (.str p) (.str q) = some (.bool (!decide (p = q))) := by
  rw [o_neD (sh_str hp) (sh_str hq), PyData.eqv, Bool.beq_eq_decide_eq]
theorem o_eqIS {p : Int} {q : Str} (hq : PyData.strOk q = true) : opD .eq (.int p) (.str q) = some (.bool false) := by
  rw [o_eqD sh_int (sh_str hq), PyData.eqv]
  all_goals (intros; simp_all)
theorem o_eqSI {p : Int} {q : Str} (hq : PyData.strOk q = true) : opD .eq (.str q) (.int p) = some (.bool false) := by
  rw [o_eqD (sh_str hq) sh_int, PyData.eqv]
  all_goals (intros; simp_all)
theorem o_neIS {p : Int} {q : Str} (hq : PyData.strOk q = true) : opD .ne (.int p) (.str q) = some (.bool true) := by
  rw [o_neD sh_int (sh_str hq), PyData.eqv]
  all_goals (intros; simp_all)
theorem o_neSI {p : Int} {q : Str} (hq : PyData.strOk q = true) : opD .ne (.str q) (.int p) = some (.bool true) := by
  rw [o_neD (sh_str hq) sh_int, PyData.eqv]
  all_goals (intros; simp_all)
theorem v_dict {m : Bool} {ks : List (Key × D)} : asgV m i (dictD ks) sv = (frzS sv).set i (some (.d (dictD ks))) := by cases m <;> rfl
theorem frzS_nil : frzS [] = [] := rfl
theorem frzS_cons {o : Option Sv} : frzS (o :: sv) = frz1 o :: frzS sv := rfl
theorem fz1_d {x : D} : frz1 (some (.d x)) = some (.d x) := rfl
theorem fz1_o {xs : List D} : frz1 (some (.own xs)) = some (.d (.list xs)) := rfl
theorem fz1_n : frz1 none = none := rfl
theorem q_join : eJoin a b F env = (a F env).bind fun x => (b F env).bind fun y => joinD x y := by
  unfold eJoin
  cases a F env with
  | none => rfl
  | some x => cases b F env <;> rfl
theorem q_split : eSplit a b F env = (a F env).bind fun x => (b F env).bind fun y => splitD x y := by
  unfold eSplit
  cases a F env with
  | none => rfl
  | some x => cases b F env <;> rfl
theorem q_dec : eDec a F env = (a F env).bind decD := by
  unfold eDec
  cases a F env <;> rfl
theorem strsOf_map : ∀ ys : List Str, strsOf (ys.map PyData.str) = some ys
  | [] => rfl
  | y :: r => by
    show (strsOf (r.map PyData.str)).map (y :: ·) = _
    rw [strsOf_map r]
    rfl
theorem j_str {z : Str} {ys : List Str} (h : (ys.map fun z : Str => z.length).sum + ys.length * z.length ≤ lim) : joinD (.str z) (.list (ys.map PyData.str)) = some (.str (Txt.join z ys)) := by
  show (match strsOf (ys.map PyData.str) with
    | some ys => if (ys.map fun z : Str => z.length).sum + ys.length * z.length ≤ lim then some (PyData.str (Txt.join z ys)) else none
    | none => none) = _
  rw [strsOf_map]
  show (if (ys.map fun z : Str => z.length).sum + ys.length * z.length ≤ lim then some (PyData.str (Txt.join z ys)) else none) = _
  rw [if_pos h]
theorem s_str {z u : Str} (h : (u.length == 0) = false ∧ z.length ≤ lim) : splitD (.str z) (.str u) = some (.list ((Txt.split z u).map PyData.str)) := by
  show (if (u.length == 0) = false ∧ z.length ≤ lim then some (PyData.list ((Txt.split z u).map PyData.str)) else none) = _
  rw [if_pos h]
theorem dec_str {z : Str} : decD (.str z) = some (.bool (Txt.isdecimal z)) := rfl
theorem str_r {n : Int} (h : n.natAbs.log2 < 1920) : semStr.run [.int n] = some (.str (toString n)) := by
  show (if n.natAbs.log2 < 1920 then some (PyData.str (toString n)) else none) = _
  rw [if_pos h]
theorem intT_r {z : Str} {n : Int} (h : z.length ≤ 640) (e : PySem.intText? z = some n) : semInt.run [.str z] = some (.int n) := by
  show intTD z = _
  unfold intTD
  rw [if_pos h, e]
  rfl
theorem tup_rl {xs : List D} : semTuple.run [.list xs] = some (.tuple xs) := rfl
theorem f_str : semStr.fresh = false := rfl
theorem f_tuple : semTuple.fresh = false := rfl
theorem f_int : semInt.fresh = false := rfl
theorem out_retS {f : Bool} {z : Str} : outD f (some (.ret (.str z) false)) = some (.str z) := by cases f <;> rfl
theorem r_newK : sNewK i F sv = some (.nx (sv.set i (some (.ownK [])))) := rfl
theorem it_k {n : Int} {ks : List (Key × D)} : itemV i sv d (.int n) (some (.ownK ks)) = if atD d = true ∧ ks.length < lim then some (.nx (sv.set i (some (.ownK (putKD ks (.inl n) d))))) else none := rfl
theorem th_k {ks : List (Key × D)} : thaw (some (.ownK ks)) = some (dictD ks) := rfl
theorem hd_k {ks : List (Key × D)} : hide1 (some (.ownK ks)) = none := rfl
theorem fz1_k {ks : List (Key × D)} : frz1 (some (.ownK ks)) = some (.d (dictD ks)) := rfl
theorem list_k {ks : List (Key × D)} : semList.run [dictD ks] = some (.list (ks.map fun p => keyD p.1)) := by
  show (tailK ((.none, .none) :: ks.map fun p => (keyD p.1, p.2))).map (fun r => PyData.list (r.map (·.1))) = _
  rw [tailK_mark, Option.map_some, List.map_map]
  rfl
theorem lc_nil {f : D → Option (Option D)} : lcD f [] = some [] := rfl
def lcK (r : Option D) (s : List D) : List D := match r with
  | none => s
  | some d => d :: s
theorem lc_cons {f : D → Option (Option D)} {x : D} {xs : List D} : lcD f (x :: xs) = (f x).bind fun r => (lcD f xs).map fun s => lcK r s := by
  show (match f x, lcD f xs with
    | some none, some r => some r
    | some (some d), some r => some (d :: r)
    | _, _ => none) = _
  cases f x with
  | none => rfl
  | some r => cases lcD f xs <;> cases r <;> rfl
end
theorem for_nx {b : SE → Option Fl} {i : Nat} {x : D} {xs : List D} {env e : SE} (h : b (env.set i (some (.d x))) = some (.nx e)) : forD b (.one i) (x :: xs) env = forD b (.one i) xs e := by
  have hs : setSv env (Tgt.one i).ix [x] = env.set i (some (.d x)) := rfl
  rw [forD]
  simp only [tg1, hs, h]
theorem for_nil {b : SE → Option Fl} {t : Tgt} {env : SE} : forD b t [] env = some (.nx env) := rfl
def plain : D → Bool
  | .int _ => true
  | .str z => PyData.strOk z
  | _ => false
theorem plain_inv {d : D} (h : plain d = true) : (∃ i, d = .int i) ∨ ∃ z, d = .str z ∧ PyData.strOk z = true := by
  cases d <;> first | (cases h; done) | exact .inl ⟨_, rfl⟩ | exact .inr ⟨_, rfl, h⟩
theorem plain_flat {d : D} (h : plain d = true) : flat d = true := by
  rcases plain_inv h with ⟨i, rfl⟩ | ⟨z, rfl, _⟩ <;> rfl
theorem plain_flats : ∀ {ds : List D}, ds.all plain = true → flats ds = true
  | [], _ => by rw [fls_nil]
  | d :: ds, h => by
    rw [List.all_cons, Bool.and_eq_true] at h
    rw [fls_cons, plain_flat h.1, plain_flats h.2]
    rfl
/-- == of numbers and texts -/
def pEq : D → D → Bool
  | .int i, .int j => decide (i = j)
  | .str i, .str j => decide (i = j)
  | _, _ => false
theorem o_eqP {x y : D} (hx : plain x = true) (hy : plain y = true) : opD .eq x y = some (.bool (pEq x y)) := by
  rcases plain_inv hx with ⟨i, rfl⟩ | ⟨z, rfl, hz⟩ <;> rcases plain_inv hy with ⟨j, rfl⟩ | ⟨u, rfl, hu⟩
  · exact o_eqI
  · exact o_eqIS hu
  · exact o_eqSI hz
  · exact o_eqS hz hu
theorem o_neP {x y : D} (hx : plain x = true) (hy : plain y = true) : opD .ne x y = some (.bool (!pEq x y)) := by
  rcases plain_inv hx with ⟨i, rfl⟩ | ⟨z, rfl, hz⟩ <;> rcases plain_inv hy with ⟨j, rfl⟩ | ⟨u, rfl, hu⟩
  · exact o_neI
  · exact o_neIS hu
  · exact o_neSI hz
  · exact o_neS hz hu
theorem atI_neg {α : Type} {xs : List α} {k : Nat} (h0 : 0 < k) (h : k ≤ xs.length) : atI xs (-(k : Int)) = xs[xs.length - k]? := by
  unfold atI ixN
  rw [if_neg (by omega), if_pos (by omega)]
  show xs[(-(k : Int) + (xs.length : Int)).toNat]? = _
  congr 1
  omega
end PU
namespace PU.Lk09
open PySem PySem.Spec PyProof.Rows L2
/-! ### the text, by places -/
def tp (i : Nat) : Stmt := PySem.Challenge.pw_longhold_k09_facts_in_order.main.body.getD i (.Pass ⟨0, 0, 0, 0⟩)
def tT : List Str := ["len", "list", "min", "sorted", "in_order", "of_field", "walks", "_law_cell", "_law_digits", "_law_whole", "_law_like", "_law_folk", "_law_fact", "_law_few", "_law_sorted", "law"]
def tBs : List Str := ["bool", "int", "isinstance", "len", "list", "min", "range", "sorted", "str", "tuple", "zip"]
abbrev big : Nat := 100000
def tGs : List (Str × Gv) := []
abbrev s_in_order : Stmt := tp 1
def n_in_order : List Str := ["facts"]
theorem sc_in_order : FnScope n_in_order ["facts"] (defScope s_in_order) := ⟨rfl, rfl, rfl, by decide +kernel, rfl, by decide +kernel, by decide +kernel⟩
abbrev s_of_field : Stmt := tp 2
def n_of_field : List Str := ["facts", "field", "fact"]
theorem sc_of_field : FnScope n_of_field ["facts", "field"] (defScope s_of_field) := ⟨rfl, rfl, rfl, by decide +kernel, rfl, by decide +kernel, by decide +kernel⟩
abbrev s_walks : Stmt := tp 3
def n_walks : List Str := ["facts", "over", "to", "fact"]
theorem sc_walks : FnScope n_walks ["facts", "over", "to"] (defScope s_walks) := ⟨rfl, rfl, rfl, by decide +kernel, rfl, by decide +kernel, by decide +kernel⟩
abbrev s_cell : Stmt := tp 5
def n_cell : List Str := ["_law_script", "_law_k"]
theorem sc_cell : FnScope n_cell ["_law_script", "_law_k"] (defScope s_cell) := ⟨rfl, rfl, rfl, by decide +kernel, rfl, by decide +kernel, by decide +kernel⟩
abbrev s_digits : Stmt := tp 6
def n_digits : List Str := ["_law_cell_here", "_law_sizes", "_law_out", "_law_rest", "_law_size", "_law_one", "_law_k", "_law_two"]
theorem sc_digits : FnScope n_digits ["_law_cell_here", "_law_sizes"] (defScope s_digits) := ⟨rfl, rfl, rfl, by decide +kernel, rfl, by decide +kernel, by decide +kernel⟩
abbrev s_whole : Stmt := tp 7
def n_whole : List Str := ["_law_thing"]
theorem sc_whole : FnScope n_whole ["_law_thing"] (defScope s_whole) := ⟨rfl, rfl, rfl, by decide +kernel, rfl, by decide +kernel, by decide +kernel⟩
abbrev s_like : Stmt := tp 8
def n_like : List Str := ["_law_found", "_law_due", "_law_one", "_law_other"]
theorem sc_like : FnScope n_like ["_law_found", "_law_due"] (defScope s_like) := ⟨rfl, rfl, rfl, by decide +kernel, rfl, by decide +kernel, by decide +kernel⟩
abbrev s_folk : Stmt := tp 9
def n_folk : List Str := ["_law_start", "_law_step", "_law_many", "_law_k"]
theorem sc_folk : FnScope n_folk ["_law_start", "_law_step", "_law_many"] (defScope s_folk) := ⟨rfl, rfl, rfl, by decide +kernel, rfl, by decide +kernel, by decide +kernel⟩
abbrev s_fact : Stmt := tp 10
def n_fact : List Str := ["_law_cell_here", "_law_field", "_law_folk_here", "_law_base", "_law_wide", "_law_row", "_law_words", "_law_word", "_law_day", "_law_one", "_law_two"]
theorem sc_fact : FnScope n_fact ["_law_cell_here", "_law_field", "_law_folk_here", "_law_base", "_law_wide"] (defScope s_fact) := ⟨rfl, rfl, rfl, by decide +kernel, rfl, by decide +kernel, by decide +kernel⟩
abbrev s_few : Stmt := tp 11
def n_few : List Str := ["_law_script", "_law_start", "_law_many", "_law_folk_here", "_law_fields", "_law_base", "_law_wide", "_law_out", "_law_k", "_law_row", "_law_field", "_law_fact_here", "_law_one", "_law_to"]
theorem sc_few : FnScope n_few ["_law_script", "_law_start", "_law_many", "_law_folk_here", "_law_fields", "_law_base", "_law_wide"] (defScope s_few) := ⟨rfl, rfl, rfl, by decide +kernel, rfl, by decide +kernel, by decide +kernel⟩
abbrev s_sorted : Stmt := tp 12
def n_sorted : List Str := ["_law_facts", "_law_out", "_law_fact_here", "_law_at"]
theorem sc_sorted : FnScope n_sorted ["_law_facts"] (defScope s_sorted) := ⟨rfl, rfl, rfl, by decide +kernel, rfl, by decide +kernel, by decide +kernel⟩
abbrev s_law : Stmt := tp 13
def n_law : List Str := ["_law_script", "_law_head", "_law_folk_here", "_law_fields", "_law_facts", "_law_handed", "_law_due", "_law_found", "_law_strange", "_law_one", "_law_other", "_law_mine", "_law_days", "_law_fact_here", "_law_turn", "_law_told", "_law_number", "_law_field"]
theorem sc_law : FnScope n_law ["_law_script"] (defScope s_law) := ⟨rfl, rfl, rfl, by decide +kernel, rfl, by decide +kernel, by decide +kernel⟩
/-! ### meanings -/
def d_in_order_1 : DenS := sNil
theorem D_in_order_1 (F : List Sem1) (sv : SE) : d_in_order_1 F sv = sNil F sv := by kernel_rfl
def d_in_order_0 : DenS := sSeq (sRet (.call 3) (eCall 3 (aCons (eVar 0) aNil)))
  d_in_order_1
theorem D_in_order_0 (F : List Sem1) (sv : SE) : d_in_order_0 F sv = sSeq (sRet (.call 3) (eCall 3 (aCons (eVar 0) aNil)))
  d_in_order_1 F sv := by kernel_rfl
-- U_in_order: D_in_order_0, D_in_order_1
theorem e_in_order : denSs ⟨n_in_order, tT, tBs, tGs⟩ big (defScope s_in_order) 60 (defBody s_in_order) = d_in_order_0 := by kernel_rfl
def d_of_field_1 : DenS := sNil
theorem D_of_field_1 (F : List Sem1) (sv : SE) : d_of_field_1 F sv = sNil F sv := by kernel_rfl
def d_of_field_0 : DenS := sSeq (sRet (.call 4) (eCall 4 (aCons (eLc [2] (.one 2) (iSeq (eVar 0)) (tAnd (tB (eBin .notin (eIx (eVar 2) (eC (.int 1))) (eTup (aCons (eC (.str "bar")) (aCons (eC (.str "walk")) aNil))))) (tB (eBin .eq (eIx (eVar 2) (eC (.int 2))) (eVar 1)))) (eVar 2)) aNil)))
  d_of_field_1
theorem D_of_field_0 (F : List Sem1) (sv : SE) : d_of_field_0 F sv = sSeq (sRet (.call 4) (eCall 4 (aCons (eLc [2] (.one 2) (iSeq (eVar 0)) (tAnd (tB (eBin .notin (eIx (eVar 2) (eC (.int 1))) (eTup (aCons (eC (.str "bar")) (aCons (eC (.str "walk")) aNil))))) (tB (eBin .eq (eIx (eVar 2) (eC (.int 2))) (eVar 1)))) (eVar 2)) aNil)))
  d_of_field_1 F sv := by kernel_rfl
-- U_of_field: D_of_field_0, D_of_field_1
theorem e_of_field : denSs ⟨n_of_field, tT, tBs, tGs⟩ big (defScope s_of_field) 60 (defBody s_of_field) = d_of_field_0 := by kernel_rfl
def d_walks_1 : DenS := sNil
theorem D_walks_1 (F : List Sem1) (sv : SE) : d_walks_1 F sv = sNil F sv := by kernel_rfl
def d_walks_0 : DenS := sSeq (sRet (.call 3) (eSortSc [3] (.one 3) (iSeq (eVar 0)) (tB (eBin .eq (eSl (eVar 3) (some (eC (.int 1))) none) (eTup (aCons (eC (.str "walk")) (aCons (eVar 1) (aCons (eVar 2) aNil)))))) (eIx (eVar 3) (eC (.int 0)))))
  d_walks_1
theorem D_walks_0 (F : List Sem1) (sv : SE) : d_walks_0 F sv = sSeq (sRet (.call 3) (eSortSc [3] (.one 3) (iSeq (eVar 0)) (tB (eBin .eq (eSl (eVar 3) (some (eC (.int 1))) none) (eTup (aCons (eC (.str "walk")) (aCons (eVar 1) (aCons (eVar 2) aNil)))))) (eIx (eVar 3) (eC (.int 0)))))
  d_walks_1 F sv := by kernel_rfl
-- U_walks: D_walks_0, D_walks_1
theorem e_walks : denSs ⟨n_walks, tT, tBs, tGs⟩ big (defScope s_walks) 60 (defBody s_walks) = d_walks_0 := by kernel_rfl
def d_cell_2 : DenS := sNil
theorem D_cell_2 (F : List Sem1) (sv : SE) : d_cell_2 F sv = sNil F sv := by kernel_rfl
def d_cell_1 : DenS := sSeq (sRet .yes (eBin .add (eC (.int 7)) (eBin .mul (eC (.int 19)) (eVar 1))))
  d_cell_2
theorem D_cell_1 (F : List Sem1) (sv : SE) : d_cell_1 F sv = sSeq (sRet .yes (eBin .add (eC (.int 7)) (eBin .mul (eC (.int 19)) (eVar 1))))
  d_cell_2 F sv := by kernel_rfl
def d_cell_0 : DenS := sSeq (sIf (tB (eBin .lt (eVar 1) (eCall 0 (aCons (eVar 0) aNil))))
  (sSeq (sRet .no (eIx (eVar 0) (eVar 1)))
    sNil)
  sNil)
  d_cell_1
theorem D_cell_0 (F : List Sem1) (sv : SE) : d_cell_0 F sv = sSeq (sIf (tB (eBin .lt (eVar 1) (eCall 0 (aCons (eVar 0) aNil))))
  (sSeq (sRet .no (eIx (eVar 0) (eVar 1)))
    sNil)
  sNil)
  d_cell_1 F sv := by kernel_rfl
-- U_cell: D_cell_0, D_cell_1, D_cell_2
theorem e_cell : denSs ⟨n_cell, tT, tBs, tGs⟩ big (defScope s_cell) 60 (defBody s_cell) = d_cell_0 := by kernel_rfl
def b_digits_0 : DenS :=
  (sSeq (sApp 2 (eBin .mod (eVar 3) (eVar 4)))
  (sSeq (sAsg 3 .yes (eBin .fdiv (eVar 3) (eVar 4)))
  sNil))
theorem B_digits_0 (F : List Sem1) (sv : SE) : b_digits_0 F sv = (sSeq (sApp 2 (eBin .mod (eVar 3) (eVar 4)))
  (sSeq (sAsg 3 .yes (eBin .fdiv (eVar 3) (eVar 4)))
  sNil)) F sv := by kernel_rfl
def b_digits_1 : DenS :=
  (sSeq (sAsg 5 .yes (eBin .mod (eBin .add (eBin .mul (eVar 5) (eC (.int 48271))) (eBin .mul (eC (.int 10007)) (eBin .add (eVar 6) (eC (.int 1))))) (eC (.int 2147483629))))
  (sSeq (sAsg 7 .yes (eBin .mod (eBin .add (eBin .add (eBin .mul (eVar 5) (eVar 5)) (eBin .mul (eC (.int 69621)) (eVar 5))) (eVar 6)) (eC (.int 2147483563))))
  (sSeq (sApp 2 (eBin .mod (eBin .fdiv (eVar 7) (eC (.int 11))) (eIx (eVar 1) (eVar 6))))
  sNil)))
theorem B_digits_1 (F : List Sem1) (sv : SE) : b_digits_1 F sv = (sSeq (sAsg 5 .yes (eBin .mod (eBin .add (eBin .mul (eVar 5) (eC (.int 48271))) (eBin .mul (eC (.int 10007)) (eBin .add (eVar 6) (eC (.int 1))))) (eC (.int 2147483629))))
  (sSeq (sAsg 7 .yes (eBin .mod (eBin .add (eBin .add (eBin .mul (eVar 5) (eVar 5)) (eBin .mul (eC (.int 69621)) (eVar 5))) (eVar 6)) (eC (.int 2147483563))))
  (sSeq (sApp 2 (eBin .mod (eBin .fdiv (eVar 7) (eC (.int 11))) (eIx (eVar 1) (eVar 6))))
  sNil))) F sv := by kernel_rfl
def d_digits_5 : DenS := sNil
theorem D_digits_5 (F : List Sem1) (sv : SE) : d_digits_5 F sv = sNil F sv := by kernel_rfl
def d_digits_4 : DenS := sSeq (sRetV 2)
  d_digits_5
theorem D_digits_4 (F : List Sem1) (sv : SE) : d_digits_4 F sv = sSeq (sRetV 2)
  d_digits_5 F sv := by kernel_rfl
def d_digits_3 : DenS := sSeq (sFor [1] (.one 6) (iRange1 (eCall 0 (aCons (eVar 1) aNil))) b_digits_1)
  d_digits_4
theorem D_digits_3 (F : List Sem1) (sv : SE) : d_digits_3 F sv = sSeq (sFor [1] (.one 6) (iRange1 (eCall 0 (aCons (eVar 1) aNil))) b_digits_1)
  d_digits_4 F sv := by kernel_rfl
def d_digits_2 : DenS := sSeq (sAsg 5 .yes (eBin .mod (eVar 0) (eC (.int 2147483647))))
  d_digits_3
theorem D_digits_2 (F : List Sem1) (sv : SE) : d_digits_2 F sv = sSeq (sAsg 5 .yes (eBin .mod (eVar 0) (eC (.int 2147483647))))
  d_digits_3 F sv := by kernel_rfl
def d_digits_1 : DenS := sSeq (sIf (tB (eBin .ge (eVar 0) (eBin .pow (eC (.int 10)) (eC (.int 18)))))
  (sSeq (sAsg 3 .yes (eBin .sub (eVar 0) (eBin .pow (eC (.int 10)) (eC (.int 18)))))
    (sSeq (sFor [1] (.one 4) (iSeq (eVar 1)) b_digits_0)
    (sSeq (sRetV 2)
    sNil)))
  sNil)
  d_digits_2
theorem D_digits_1 (F : List Sem1) (sv : SE) : d_digits_1 F sv = sSeq (sIf (tB (eBin .ge (eVar 0) (eBin .pow (eC (.int 10)) (eC (.int 18)))))
  (sSeq (sAsg 3 .yes (eBin .sub (eVar 0) (eBin .pow (eC (.int 10)) (eC (.int 18)))))
    (sSeq (sFor [1] (.one 4) (iSeq (eVar 1)) b_digits_0)
    (sSeq (sRetV 2)
    sNil)))
  sNil)
  d_digits_2 F sv := by kernel_rfl
def d_digits_0 : DenS := sSeq (sAsg 2 .yes (eLst aNil))
  d_digits_1
theorem D_digits_0 (F : List Sem1) (sv : SE) : d_digits_0 F sv = sSeq (sAsg 2 .yes (eLst aNil))
  d_digits_1 F sv := by kernel_rfl
-- U_digits: D_digits_0, D_digits_1, D_digits_2, D_digits_3, D_digits_4, D_digits_5
theorem e_digits : denSs ⟨n_digits, tT, tBs, tGs⟩ big (defScope s_digits) 60 (defBody s_digits) = d_digits_0 := by kernel_rfl
def d_whole_1 : DenS := sNil
theorem D_whole_1 (F : List Sem1) (sv : SE) : d_whole_1 F sv = sNil F sv := by kernel_rfl
def d_whole_0 : DenS := sSeq (sRet .no (eAnd (eIsi .int (eVar 0)) (eNot (eIsi .bool (eVar 0)))))
  d_whole_1
theorem D_whole_0 (F : List Sem1) (sv : SE) : d_whole_0 F sv = sSeq (sRet .no (eAnd (eIsi .int (eVar 0)) (eNot (eIsi .bool (eVar 0)))))
  d_whole_1 F sv := by kernel_rfl
-- U_whole: D_whole_0, D_whole_1
theorem e_whole : denSs ⟨n_whole, tT, tBs, tGs⟩ big (defScope s_whole) 60 (defBody s_whole) = d_whole_0 := by kernel_rfl
def b_like_0 : DenS :=
  (sSeq (sIf (tNot (tVal (eCall 10 (aCons (eVar 2) (aCons (eVar 3) aNil)))))
    (sSeq (sRet .no (eC (.bool false)))
      sNil)
    sNil)
  sNil)
theorem B_like_0 (F : List Sem1) (sv : SE) : b_like_0 F sv = (sSeq (sIf (tNot (tVal (eCall 10 (aCons (eVar 2) (aCons (eVar 3) aNil)))))
    (sSeq (sRet .no (eC (.bool false)))
      sNil)
    sNil)
  sNil) F sv := by kernel_rfl
def d_like_8 : DenS := sNil
theorem D_like_8 (F : List Sem1) (sv : SE) : d_like_8 F sv = sNil F sv := by kernel_rfl
def d_like_7 : DenS := sSeq (sRet .no (eC (.bool true)))
  d_like_8
theorem D_like_7 (F : List Sem1) (sv : SE) : d_like_7 F sv = sSeq (sRet .no (eC (.bool true)))
  d_like_8 F sv := by kernel_rfl
def d_like_6 : DenS := sSeq (sFor [0, 1] (.tup [2, 3]) (iZip (eVar 0) (eVar 1)) b_like_0)
  d_like_7
theorem D_like_6 (F : List Sem1) (sv : SE) : d_like_6 F sv = sSeq (sFor [0, 1] (.tup [2, 3]) (iZip (eVar 0) (eVar 1)) b_like_0)
  d_like_7 F sv := by kernel_rfl
def d_like_5 : DenS := sSeq (sIf (tB (eBin .ne (eCall 0 (aCons (eVar 0) aNil)) (eCall 0 (aCons (eVar 1) aNil))))
  (sSeq (sRet .no (eC (.bool false)))
    sNil)
  sNil)
  d_like_6
theorem D_like_5 (F : List Sem1) (sv : SE) : d_like_5 F sv = sSeq (sIf (tB (eBin .ne (eCall 0 (aCons (eVar 0) aNil)) (eCall 0 (aCons (eVar 1) aNil))))
  (sSeq (sRet .no (eC (.bool false)))
    sNil)
  sNil)
  d_like_6 F sv := by kernel_rfl
def d_like_4 : DenS := sSeq (sIf (tOr (tB (eBin .ne (eIsi .tuple (eVar 1)) (eIsi .tuple (eVar 0)))) (tB (eBin .ne (eIsi .list (eVar 1)) (eIsi .list (eVar 0)))))
  (sSeq (sRet .no (eC (.bool false)))
    sNil)
  sNil)
  d_like_5
theorem D_like_4 (F : List Sem1) (sv : SE) : d_like_4 F sv = sSeq (sIf (tOr (tB (eBin .ne (eIsi .tuple (eVar 1)) (eIsi .tuple (eVar 0)))) (tB (eBin .ne (eIsi .list (eVar 1)) (eIsi .list (eVar 0)))))
  (sSeq (sRet .no (eC (.bool false)))
    sNil)
  sNil)
  d_like_5 F sv := by kernel_rfl
def d_like_3 : DenS := sSeq (sIf (tVal (eIsi .str (eVar 1)))
  (sSeq (sRet .no (eAnd (eIsi .str (eVar 0)) (eBin .eq (eVar 0) (eVar 1))))
    sNil)
  sNil)
  d_like_4
theorem D_like_3 (F : List Sem1) (sv : SE) : d_like_3 F sv = sSeq (sIf (tVal (eIsi .str (eVar 1)))
  (sSeq (sRet .no (eAnd (eIsi .str (eVar 0)) (eBin .eq (eVar 0) (eVar 1))))
    sNil)
  sNil)
  d_like_4 F sv := by kernel_rfl
def d_like_2 : DenS := sSeq (sIf (tVal (eIsi .int (eVar 1)))
  (sSeq (sRet .no (eAnd (eCall 9 (aCons (eVar 0) aNil)) (eBin .eq (eVar 0) (eVar 1))))
    sNil)
  sNil)
  d_like_3
theorem D_like_2 (F : List Sem1) (sv : SE) : d_like_2 F sv = sSeq (sIf (tVal (eIsi .int (eVar 1)))
  (sSeq (sRet .no (eAnd (eCall 9 (aCons (eVar 0) aNil)) (eBin .eq (eVar 0) (eVar 1))))
    sNil)
  sNil)
  d_like_3 F sv := by kernel_rfl
def d_like_1 : DenS := sSeq (sIf (tVal (eIsi .bool (eVar 1)))
  (sSeq (sRet .no (eAnd (eIsi .bool (eVar 0)) (eBin .eq (eVar 0) (eVar 1))))
    sNil)
  sNil)
  d_like_2
theorem D_like_1 (F : List Sem1) (sv : SE) : d_like_1 F sv = sSeq (sIf (tVal (eIsi .bool (eVar 1)))
  (sSeq (sRet .no (eAnd (eIsi .bool (eVar 0)) (eBin .eq (eVar 0) (eVar 1))))
    sNil)
  sNil)
  d_like_2 F sv := by kernel_rfl
def d_like_0 : DenS := sSeq (sIf (tB (eBin .is_ (eVar 1) (eC .none)))
  (sSeq (sRet .no (eBin .is_ (eVar 0) (eC .none)))
    sNil)
  sNil)
  d_like_1
theorem D_like_0 (F : List Sem1) (sv : SE) : d_like_0 F sv = sSeq (sIf (tB (eBin .is_ (eVar 1) (eC .none)))
  (sSeq (sRet .no (eBin .is_ (eVar 0) (eC .none)))
    sNil)
  sNil)
  d_like_1 F sv := by kernel_rfl
-- U_like: D_like_0, D_like_1, D_like_2, D_like_3, D_like_4, D_like_5, D_like_6, D_like_7, D_like_8
theorem e_like : denSs ⟨n_like, tT, tBs, tGs⟩ big (defScope s_like) 60 (defBody s_like) = d_like_0 := by kernel_rfl
def d_folk_1 : DenS := sNil
theorem D_folk_1 (F : List Sem1) (sv : SE) : d_folk_1 F sv = sNil F sv := by kernel_rfl
def d_folk_0 : DenS := sSeq (sRet .yes (eLc [3] (.one 3) (iRange1 (eVar 2)) tYes' (eBin .add (eC (.int 1)) (eBin .mod (eBin .add (eVar 0) (eBin .mul (eVar 3) (eIx (eTup (aCons (eC (.int 1)) (aCons (eC (.int 100)) (aCons (eC (.int 331)) (aCons (eC (.int 500)) (aCons (eC (.int 998)) aNil)))))) (eVar 1)))) (eC (.int 999))))))
  d_folk_1
theorem D_folk_0 (F : List Sem1) (sv : SE) : d_folk_0 F sv = sSeq (sRet .yes (eLc [3] (.one 3) (iRange1 (eVar 2)) tYes' (eBin .add (eC (.int 1)) (eBin .mod (eBin .add (eVar 0) (eBin .mul (eVar 3) (eIx (eTup (aCons (eC (.int 1)) (aCons (eC (.int 100)) (aCons (eC (.int 331)) (aCons (eC (.int 500)) (aCons (eC (.int 998)) aNil)))))) (eVar 1)))) (eC (.int 999))))))
  d_folk_1 F sv := by kernel_rfl
-- U_folk: D_folk_0, D_folk_1
theorem e_folk : denSs ⟨n_folk, tT, tBs, tGs⟩ big (defScope s_folk) 60 (defBody s_folk) = d_folk_0 := by kernel_rfl
def d_fact_9 : DenS := sNil
theorem D_fact_9 (F : List Sem1) (sv : SE) : d_fact_9 F sv = sNil F sv := by kernel_rfl
def d_fact_8 : DenS := sSeq (sRet .no (eTup (aCons (eVar 8) (aCons (eVar 7) (aCons (eVar 1) aNil)))))
  d_fact_9
theorem D_fact_8 (F : List Sem1) (sv : SE) : d_fact_8 F sv = sSeq (sRet .no (eTup (aCons (eVar 8) (aCons (eVar 7) (aCons (eVar 1) aNil)))))
  d_fact_9 F sv := by kernel_rfl
def d_fact_7 : DenS := sSeq (sIf (tB (eBin .isin (eVar 7) (eTup (aCons (eC (.str "enter")) (aCons (eC (.str "hand")) (aCons (eC (.str "sue")) aNil))))))
  (sSeq (sRet .no (eTup (aCons (eVar 8) (aCons (eVar 7) (aCons (eVar 1) (aCons (eVar 9) aNil))))))
    sNil)
  sNil)
  d_fact_8
theorem D_fact_7 (F : List Sem1) (sv : SE) : d_fact_7 F sv = sSeq (sIf (tB (eBin .isin (eVar 7) (eTup (aCons (eC (.str "enter")) (aCons (eC (.str "hand")) (aCons (eC (.str "sue")) aNil))))))
  (sSeq (sRet .no (eTup (aCons (eVar 8) (aCons (eVar 7) (aCons (eVar 1) (aCons (eVar 9) aNil))))))
    sNil)
  sNil)
  d_fact_8 F sv := by kernel_rfl
def d_fact_6 : DenS := sSeq (sIf (tB (eBin .eq (eVar 7) (eC (.str "grant"))))
  (sSeq (sAsg 10 .yes (eBin .mod (eBin .add (eBin .add (eIx (eVar 5) (eC (.int 2))) (eC (.int 1))) (eBin .mod (eIx (eVar 5) (eC (.int 3))) (eBin .sub (eCall 0 (aCons (eVar 2) aNil)) (eC (.int 1))))) (eCall 0 (aCons (eVar 2) aNil))))
    (sSeq (sRet .no (eTup (aCons (eVar 8) (aCons (eVar 7) (aCons (eVar 1) (aCons (eVar 9) (aCons (eIx (eVar 2) (eVar 10)) aNil)))))))
    sNil))
  sNil)
  d_fact_7
theorem D_fact_6 (F : List Sem1) (sv : SE) : d_fact_6 F sv = sSeq (sIf (tB (eBin .eq (eVar 7) (eC (.str "grant"))))
  (sSeq (sAsg 10 .yes (eBin .mod (eBin .add (eBin .add (eIx (eVar 5) (eC (.int 2))) (eC (.int 1))) (eBin .mod (eIx (eVar 5) (eC (.int 3))) (eBin .sub (eCall 0 (aCons (eVar 2) aNil)) (eC (.int 1))))) (eCall 0 (aCons (eVar 2) aNil))))
    (sSeq (sRet .no (eTup (aCons (eVar 8) (aCons (eVar 7) (aCons (eVar 1) (aCons (eVar 9) (aCons (eIx (eVar 2) (eVar 10)) aNil)))))))
    sNil))
  sNil)
  d_fact_7 F sv := by kernel_rfl
def d_fact_5 : DenS := sSeq (sAsg 9 .no (eIx (eVar 2) (eBin .mod (eIx (eVar 5) (eC (.int 2))) (eCall 0 (aCons (eVar 2) aNil)))))
  d_fact_6
theorem D_fact_5 (F : List Sem1) (sv : SE) : d_fact_5 F sv = sSeq (sAsg 9 .no (eIx (eVar 2) (eBin .mod (eIx (eVar 5) (eC (.int 2))) (eCall 0 (aCons (eVar 2) aNil)))))
  d_fact_6 F sv := by kernel_rfl
def d_fact_4 : DenS := sSeq (sAsg 8 .yes (eBin .add (eVar 3) (eBin .mod (eIx (eVar 5) (eC (.int 1))) (eVar 4))))
  d_fact_5
theorem D_fact_4 (F : List Sem1) (sv : SE) : d_fact_4 F sv = sSeq (sAsg 8 .yes (eBin .add (eVar 3) (eBin .mod (eIx (eVar 5) (eC (.int 1))) (eVar 4))))
  d_fact_5 F sv := by kernel_rfl
def d_fact_3 : DenS := sSeq (sAsg 7 .no (eIx (eVar 6) (eIx (eVar 5) (eC (.int 0)))))
  d_fact_4
theorem D_fact_3 (F : List Sem1) (sv : SE) : d_fact_3 F sv = sSeq (sAsg 7 .no (eIx (eVar 6) (eIx (eVar 5) (eC (.int 0)))))
  d_fact_4 F sv := by kernel_rfl
def d_fact_2 : DenS := sSeq (sAsg 6 .yes (eBin .add (eVar 6) (eLst (aCons (eC (.str "grant")) (aCons (eC (.str "fall")) (aCons (eC (.str "hand")) (aCons (eC (.str "enter")) (aCons (eC (.str "win")) (aCons (eC (.str "sue")) aNil)))))))))
  d_fact_3
theorem D_fact_2 (F : List Sem1) (sv : SE) : d_fact_2 F sv = sSeq (sAsg 6 .yes (eBin .add (eVar 6) (eLst (aCons (eC (.str "grant")) (aCons (eC (.str "fall")) (aCons (eC (.str "hand")) (aCons (eC (.str "enter")) (aCons (eC (.str "win")) (aCons (eC (.str "sue")) aNil)))))))))
  d_fact_3 F sv := by kernel_rfl
def d_fact_1 : DenS := sSeq (sAsg 6 .yes (eLst (aCons (eC (.str "enter")) (aCons (eC (.str "hand")) (aCons (eC (.str "grant")) (aCons (eC (.str "sue")) (aCons (eC (.str "win")) (aCons (eC (.str "enter")) (aCons (eC (.str "yes")) (aCons (eC (.str "leave")) aNil))))))))))
  d_fact_2
theorem D_fact_1 (F : List Sem1) (sv : SE) : d_fact_1 F sv = sSeq (sAsg 6 .yes (eLst (aCons (eC (.str "enter")) (aCons (eC (.str "hand")) (aCons (eC (.str "grant")) (aCons (eC (.str "sue")) (aCons (eC (.str "win")) (aCons (eC (.str "enter")) (aCons (eC (.str "yes")) (aCons (eC (.str "leave")) aNil))))))))))
  d_fact_2 F sv := by kernel_rfl
def d_fact_0 : DenS := sSeq (sAsg 5 (.call 8) (eCall 8 (aCons (eVar 0) (aCons (eLst (aCons (eC (.int 14)) (aCons (eC (.int 977)) (aCons (eC (.int 97)) (aCons (eC (.int 97)) aNil))))) aNil))))
  d_fact_1
theorem D_fact_0 (F : List Sem1) (sv : SE) : d_fact_0 F sv = sSeq (sAsg 5 (.call 8) (eCall 8 (aCons (eVar 0) (aCons (eLst (aCons (eC (.int 14)) (aCons (eC (.int 977)) (aCons (eC (.int 97)) (aCons (eC (.int 97)) aNil))))) aNil))))
  d_fact_1 F sv := by kernel_rfl
-- U_fact: D_fact_0, D_fact_1, D_fact_2, D_fact_3, D_fact_4, D_fact_5, D_fact_6, D_fact_7, D_fact_8, D_fact_9
theorem e_fact : denSs ⟨n_fact, tT, tBs, tGs⟩ big (defScope s_fact) 60 (defBody s_fact) = d_fact_0 := by kernel_rfl
def b_few_0 : DenS :=
  (sSeq (sAsg 9 (.call 8) (eCall 8 (aCons (eCall 7 (aCons (eVar 0) (aCons (eBin .add (eVar 1) (eVar 8)) aNil))) (aCons (eLst (aCons (eC (.int 14)) (aCons (eC (.int 977)) (aCons (eC (.int 97)) (aCons (eC (.int 97)) (aCons (eC (.int 5)) (aCons (eC (.int 97)) (aCons (eC (.int 97)) (aCons (eC (.int 60)) aNil))))))))) aNil))))
  (sSeq (sAsg 10 .no (eIx (eVar 4) (eBin .mod (eIx (eVar 9) (eC (.int 5))) (eCall 0 (aCons (eVar 4) aNil)))))
  (sSeq (sAsg 11 (.call 12) (eCall 12 (aCons (eCall 7 (aCons (eVar 0) (aCons (eBin .add (eVar 1) (eVar 8)) aNil))) (aCons (eVar 10) (aCons (eVar 3) (aCons (eVar 5) (aCons (eVar 6) aNil)))))))
  (sSeq (sIf (tB (eBin .eq (eIx (eVar 9) (eC (.int 4))) (eC (.int 0))))
    (sSeq (sAsg 12 .no (eIx (eVar 3) (eBin .mod (eIx (eVar 9) (eC (.int 6))) (eCall 0 (aCons (eVar 3) aNil)))))
      (sSeq (sAsg 11 .no (eTup (aCons (eIx (eVar 11) (eC (.int 0))) (aCons (eC (.str "bar")) (aCons (eVar 12) (aCons (eCall 2 (aCons (eC (.int 10000)) (aCons (eBin .add (eBin .add (eIx (eVar 11) (eC (.int 0))) (eC (.int 1))) (eBin .mod (eIx (eVar 9) (eC (.int 7))) (eBin .add (eC (.int 1)) (eBin .fdiv (eVar 6) (eC (.int 3)))))) aNil))) aNil))))))
      sNil))
    sNil)
  (sSeq (sIf (tAnd (tB (eBin .eq (eIx (eVar 9) (eC (.int 4))) (eC (.int 1)))) (tB (eBin .gt (eCall 0 (aCons (eVar 4) aNil)) (eC (.int 1)))))
    (sSeq (sAsg 13 .yes (eBin .mod (eBin .add (eBin .add (eIx (eVar 9) (eC (.int 5))) (eC (.int 1))) (eBin .mod (eIx (eVar 9) (eC (.int 6))) (eBin .sub (eCall 0 (aCons (eVar 4) aNil)) (eC (.int 1))))) (eCall 0 (aCons (eVar 4) aNil))))
      (sSeq (sAsg 11 .no (eTup (aCons (eIx (eVar 11) (eC (.int 0))) (aCons (eC (.str "walk")) (aCons (eVar 10) (aCons (eIx (eVar 4) (eVar 13)) aNil))))))
      sNil))
    sNil)
  (sSeq (sApp 7 (eVar 11))
  sNil))))))
theorem B_few_0 (F : List Sem1) (sv : SE) : b_few_0 F sv = (sSeq (sAsg 9 (.call 8) (eCall 8 (aCons (eCall 7 (aCons (eVar 0) (aCons (eBin .add (eVar 1) (eVar 8)) aNil))) (aCons (eLst (aCons (eC (.int 14)) (aCons (eC (.int 977)) (aCons (eC (.int 97)) (aCons (eC (.int 97)) (aCons (eC (.int 5)) (aCons (eC (.int 97)) (aCons (eC (.int 97)) (aCons (eC (.int 60)) aNil))))))))) aNil))))
  (sSeq (sAsg 10 .no (eIx (eVar 4) (eBin .mod (eIx (eVar 9) (eC (.int 5))) (eCall 0 (aCons (eVar 4) aNil)))))
  (sSeq (sAsg 11 (.call 12) (eCall 12 (aCons (eCall 7 (aCons (eVar 0) (aCons (eBin .add (eVar 1) (eVar 8)) aNil))) (aCons (eVar 10) (aCons (eVar 3) (aCons (eVar 5) (aCons (eVar 6) aNil)))))))
  (sSeq (sIf (tB (eBin .eq (eIx (eVar 9) (eC (.int 4))) (eC (.int 0))))
    (sSeq (sAsg 12 .no (eIx (eVar 3) (eBin .mod (eIx (eVar 9) (eC (.int 6))) (eCall 0 (aCons (eVar 3) aNil)))))
      (sSeq (sAsg 11 .no (eTup (aCons (eIx (eVar 11) (eC (.int 0))) (aCons (eC (.str "bar")) (aCons (eVar 12) (aCons (eCall 2 (aCons (eC (.int 10000)) (aCons (eBin .add (eBin .add (eIx (eVar 11) (eC (.int 0))) (eC (.int 1))) (eBin .mod (eIx (eVar 9) (eC (.int 7))) (eBin .add (eC (.int 1)) (eBin .fdiv (eVar 6) (eC (.int 3)))))) aNil))) aNil))))))
      sNil))
    sNil)
  (sSeq (sIf (tAnd (tB (eBin .eq (eIx (eVar 9) (eC (.int 4))) (eC (.int 1)))) (tB (eBin .gt (eCall 0 (aCons (eVar 4) aNil)) (eC (.int 1)))))
    (sSeq (sAsg 13 .yes (eBin .mod (eBin .add (eBin .add (eIx (eVar 9) (eC (.int 5))) (eC (.int 1))) (eBin .mod (eIx (eVar 9) (eC (.int 6))) (eBin .sub (eCall 0 (aCons (eVar 4) aNil)) (eC (.int 1))))) (eCall 0 (aCons (eVar 4) aNil))))
      (sSeq (sAsg 11 .no (eTup (aCons (eIx (eVar 11) (eC (.int 0))) (aCons (eC (.str "walk")) (aCons (eVar 10) (aCons (eIx (eVar 4) (eVar 13)) aNil))))))
      sNil))
    sNil)
  (sSeq (sApp 7 (eVar 11))
  sNil)))))) F sv := by kernel_rfl
def d_few_3 : DenS := sNil
theorem D_few_3 (F : List Sem1) (sv : SE) : d_few_3 F sv = sNil F sv := by kernel_rfl
def d_few_2 : DenS := sSeq (sRetV 7)
  d_few_3
theorem D_few_2 (F : List Sem1) (sv : SE) : d_few_2 F sv = sSeq (sRetV 7)
  d_few_3 F sv := by kernel_rfl
def d_few_1 : DenS := sSeq (sFor [2] (.one 8) (iRange1 (eVar 2)) b_few_0)
  d_few_2
theorem D_few_1 (F : List Sem1) (sv : SE) : d_few_1 F sv = sSeq (sFor [2] (.one 8) (iRange1 (eVar 2)) b_few_0)
  d_few_2 F sv := by kernel_rfl
def d_few_0 : DenS := sSeq (sAsg 7 .yes (eLst aNil))
  d_few_1
theorem D_few_0 (F : List Sem1) (sv : SE) : d_few_0 F sv = sSeq (sAsg 7 .yes (eLst aNil))
  d_few_1 F sv := by kernel_rfl
-- U_few: D_few_0, D_few_1, D_few_2, D_few_3
theorem e_few : denSs ⟨n_few, tT, tBs, tGs⟩ big (defScope s_few) 60 (defBody s_few) = d_few_0 := by kernel_rfl
def t_sorted_1 : DenT :=
  (tAnd (tB (eBin .lt (eVar 3) (eCall 0 (aCons (eVar 1) aNil)))) (tB (eBin .le (eIx (eVar 1) (eVar 3)) (eVar 2))))
theorem Q_sorted_1 (F : List Sem1) (env : DE) : t_sorted_1 F env = (tAnd (tB (eBin .lt (eVar 3) (eCall 0 (aCons (eVar 1) aNil)))) (tB (eBin .le (eIx (eVar 1) (eVar 3)) (eVar 2)))) F env := by kernel_rfl
def b_sorted_1 : DenS :=
  (sSeq (sAsg 3 .yes (eBin .add (eVar 3) (eC (.int 1))))
  sNil)
theorem B_sorted_1 (F : List Sem1) (sv : SE) : b_sorted_1 F sv = (sSeq (sAsg 3 .yes (eBin .add (eVar 3) (eC (.int 1))))
  sNil) F sv := by kernel_rfl
def b_sorted_0 : DenS :=
  (sSeq (sAsg 3 .no (eC (.int 0)))
  (sSeq (sWhile big t_sorted_1 b_sorted_1)
  (sSeq (sIns 1 (eVar 3) (eVar 2))
  sNil)))
theorem B_sorted_0 (F : List Sem1) (sv : SE) : b_sorted_0 F sv = (sSeq (sAsg 3 .no (eC (.int 0)))
  (sSeq (sWhile big t_sorted_1 b_sorted_1)
  (sSeq (sIns 1 (eVar 3) (eVar 2))
  sNil))) F sv := by kernel_rfl
def d_sorted_3 : DenS := sNil
theorem D_sorted_3 (F : List Sem1) (sv : SE) : d_sorted_3 F sv = sNil F sv := by kernel_rfl
def d_sorted_2 : DenS := sSeq (sRetV 1)
  d_sorted_3
theorem D_sorted_2 (F : List Sem1) (sv : SE) : d_sorted_2 F sv = sSeq (sRetV 1)
  d_sorted_3 F sv := by kernel_rfl
def d_sorted_1 : DenS := sSeq (sFor [0] (.one 2) (iSeq (eVar 0)) b_sorted_0)
  d_sorted_2
theorem D_sorted_1 (F : List Sem1) (sv : SE) : d_sorted_1 F sv = sSeq (sFor [0] (.one 2) (iSeq (eVar 0)) b_sorted_0)
  d_sorted_2 F sv := by kernel_rfl
def d_sorted_0 : DenS := sSeq (sAsg 1 .yes (eLst aNil))
  d_sorted_1
theorem D_sorted_0 (F : List Sem1) (sv : SE) : d_sorted_0 F sv = sSeq (sAsg 1 .yes (eLst aNil))
  d_sorted_1 F sv := by kernel_rfl
-- U_sorted: D_sorted_0, D_sorted_1, D_sorted_2, D_sorted_3
theorem e_sorted : denSs ⟨n_sorted, tT, tBs, tGs⟩ big (defScope s_sorted) 60 (defBody s_sorted) = d_sorted_0 := by kernel_rfl
def b_law_0 : DenS :=
  (sSeq (sIf (tAnd (tB (eBin .eq (eSl (eVar 13) (some (eC (.int 1))) none) (eTup (aCons (eC (.str "walk")) (aCons (eVar 9) (aCons (eVar 10) aNil)))))) (tB (eBin .notin (eIx (eVar 13) (eC (.int 0))) (eVar 12))))
    (sSeq (sApp 12 (eIx (eVar 13) (eC (.int 0))))
      sNil)
    sNil)
  sNil)
theorem B_law_0 (F : List Sem1) (sv : SE) : b_law_0 F sv = (sSeq (sIf (tAnd (tB (eBin .eq (eSl (eVar 13) (some (eC (.int 1))) none) (eTup (aCons (eC (.str "walk")) (aCons (eVar 9) (aCons (eVar 10) aNil)))))) (tB (eBin .notin (eIx (eVar 13) (eC (.int 0))) (eVar 12))))
    (sSeq (sApp 12 (eIx (eVar 13) (eC (.int 0))))
      sNil)
    sNil)
  sNil) F sv := by kernel_rfl
def b_law_1 : DenS :=
  (sSeq (sAsg 7 (.call 5) (eCall 5 (aCons (eVar 5) (aCons (eVar 9) aNil))))
  (sSeq (sAsg 15 (.call 6) (eCall 6 (aCons (eVar 5) (aCons (eVar 9) (aCons (eVar 10) aNil)))))
  (sSeq (sIf (tOr (tNot (tVal (eCall 10 (aCons (eVar 7) (aCons (eVar 11) aNil))))) (tNot (tVal (eCall 10 (aCons (eVar 15) (aCons (eVar 12) aNil))))))
    (sSeq (sRet .no (eC (.bool false)))
      sNil)
    sNil)
  (sSeq (sClr 7)
  (sSeq (sApp 15 (eNeg (eC (.int 1))))
  sNil)))))
theorem B_law_1 (F : List Sem1) (sv : SE) : b_law_1 F sv = (sSeq (sAsg 7 (.call 5) (eCall 5 (aCons (eVar 5) (aCons (eVar 9) aNil))))
  (sSeq (sAsg 15 (.call 6) (eCall 6 (aCons (eVar 5) (aCons (eVar 9) (aCons (eVar 10) aNil)))))
  (sSeq (sIf (tOr (tNot (tVal (eCall 10 (aCons (eVar 7) (aCons (eVar 11) aNil))))) (tNot (tVal (eCall 10 (aCons (eVar 15) (aCons (eVar 12) aNil))))))
    (sSeq (sRet .no (eC (.bool false)))
      sNil)
    sNil)
  (sSeq (sClr 7)
  (sSeq (sApp 15 (eNeg (eC (.int 1))))
  sNil))))) F sv := by kernel_rfl
def d_law_18 : DenS := sNil
theorem D_law_18 (F : List Sem1) (sv : SE) : d_law_18 F sv = sNil F sv := by kernel_rfl
def d_law_17 : DenS := sSeq (sRet .no (eAnd (eCall 10 (aCons (eCall 4 (aCons (eVar 5) aNil)) (aCons (eVar 6) aNil))) (eBin .eq (eVar 5) (eVar 4))))
  d_law_18
theorem D_law_17 (F : List Sem1) (sv : SE) : d_law_17 F sv = sSeq (sRet .no (eAnd (eCall 10 (aCons (eCall 4 (aCons (eVar 5) aNil)) (aCons (eVar 6) aNil))) (eBin .eq (eVar 5) (eVar 4))))
  d_law_18 F sv := by kernel_rfl
def d_law_16 : DenS := sSeq (sFor [] (.one 14) (iRange1 (eC (.int 2))) b_law_1)
  d_law_17
theorem D_law_16 (F : List Sem1) (sv : SE) : d_law_16 F sv = sSeq (sFor [] (.one 14) (iRange1 (eC (.int 2))) b_law_1)
  d_law_17 F sv := by kernel_rfl
def d_law_15 : DenS := sSeq (sFor [6] (.one 13) (iSeq (eVar 6)) b_law_0)
  d_law_16
theorem D_law_15 (F : List Sem1) (sv : SE) : d_law_15 F sv = sSeq (sFor [6] (.one 13) (iSeq (eVar 6)) b_law_0)
  d_law_16 F sv := by kernel_rfl
def d_law_14 : DenS := sSeq (sAsg 12 .yes (eLst aNil))
  d_law_15
theorem D_law_14 (F : List Sem1) (sv : SE) : d_law_14 F sv = sSeq (sAsg 12 .yes (eLst aNil))
  d_law_15 F sv := by kernel_rfl
def d_law_13 : DenS := sSeq (sAsg 11 .yes (eLc [13] (.one 13) (iSeq (eVar 6)) (tAnd (tB (eBin .ne (eIx (eVar 13) (eC (.int 1))) (eC (.str "bar")))) (tAnd (tB (eBin .ne (eIx (eVar 13) (eC (.int 1))) (eC (.str "walk")))) (tB (eBin .eq (eIx (eVar 13) (eC (.int 2))) (eVar 9))))) (eVar 13)))
  d_law_14
theorem D_law_13 (F : List Sem1) (sv : SE) : d_law_13 F sv = sSeq (sAsg 11 .yes (eLc [13] (.one 13) (iSeq (eVar 6)) (tAnd (tB (eBin .ne (eIx (eVar 13) (eC (.int 1))) (eC (.str "bar")))) (tAnd (tB (eBin .ne (eIx (eVar 13) (eC (.int 1))) (eC (.str "walk")))) (tB (eBin .eq (eIx (eVar 13) (eC (.int 2))) (eVar 9))))) (eVar 13)))
  d_law_14 F sv := by kernel_rfl
def d_law_12 : DenS := sSeq (sAsg 10 .no (eIx (eLc [17] (.one 17) (iSeq (eBin .add (eVar 3) (eLst (aCons (eVar 8) aNil)))) (tB (eBin .ne (eVar 17) (eVar 9))) (eVar 17)) (eBin .mod (eIx (eVar 1) (eC (.int 7))) (eCall 0 (aCons (eVar 3) aNil)))))
  d_law_13
theorem D_law_12 (F : List Sem1) (sv : SE) : d_law_12 F sv = sSeq (sAsg 10 .no (eIx (eLc [17] (.one 17) (iSeq (eBin .add (eVar 3) (eLst (aCons (eVar 8) aNil)))) (tB (eBin .ne (eVar 17) (eVar 9))) (eVar 17)) (eBin .mod (eIx (eVar 1) (eC (.int 7))) (eCall 0 (aCons (eVar 3) aNil)))))
  d_law_13 F sv := by kernel_rfl
def d_law_11 : DenS := sSeq (sAsg 9 .no (eIx (eBin .add (eVar 3) (eLst (aCons (eVar 8) aNil))) (eBin .mod (eIx (eVar 1) (eC (.int 6))) (eBin .add (eC (.int 1)) (eCall 0 (aCons (eVar 3) aNil))))))
  d_law_12
theorem D_law_11 (F : List Sem1) (sv : SE) : d_law_11 F sv = sSeq (sAsg 9 .no (eIx (eBin .add (eVar 3) (eLst (aCons (eVar 8) aNil))) (eBin .mod (eIx (eVar 1) (eC (.int 6))) (eBin .add (eC (.int 1)) (eCall 0 (aCons (eVar 3) aNil))))))
  d_law_12 F sv := by kernel_rfl
def d_law_10 : DenS := sSeq (sAsg 8 .no (eIx (eLc [16] (.one 16) (iRange2 (eC (.int 1)) (eC (.int 9))) (tB (eBin .notin (eVar 16) (eVar 3))) (eVar 16)) (eC (.int 0))))
  d_law_11
theorem D_law_10 (F : List Sem1) (sv : SE) : d_law_10 F sv = sSeq (sAsg 8 .no (eIx (eLc [16] (.one 16) (iRange2 (eC (.int 1)) (eC (.int 9))) (tB (eBin .notin (eVar 16) (eVar 3))) (eVar 16)) (eC (.int 0))))
  d_law_11 F sv := by kernel_rfl
def d_law_9 : DenS := sSeq (sClr 7)
  d_law_10
theorem D_law_9 (F : List Sem1) (sv : SE) : d_law_9 F sv = sSeq (sClr 7)
  d_law_10 F sv := by kernel_rfl
def d_law_8 : DenS := sSeq (sIf (tOr (tNot (tVal (eCall 10 (aCons (eVar 7) (aCons (eVar 6) aNil))))) (tB (eBin .ne (eVar 5) (eVar 4))))
  (sSeq (sRet .no (eC (.bool false)))
    sNil)
  sNil)
  d_law_9
theorem D_law_8 (F : List Sem1) (sv : SE) : d_law_8 F sv = sSeq (sIf (tOr (tNot (tVal (eCall 10 (aCons (eVar 7) (aCons (eVar 6) aNil))))) (tB (eBin .ne (eVar 5) (eVar 4))))
  (sSeq (sRet .no (eC (.bool false)))
    sNil)
  sNil)
  d_law_9 F sv := by kernel_rfl
def d_law_7 : DenS := sSeq (sAsg 7 (.call 4) (eCall 4 (aCons (eVar 5) aNil)))
  d_law_8
theorem D_law_7 (F : List Sem1) (sv : SE) : d_law_7 F sv = sSeq (sAsg 7 (.call 4) (eCall 4 (aCons (eVar 5) aNil)))
  d_law_8 F sv := by kernel_rfl
def d_law_6 : DenS := sSeq (sAsg 6 (.call 14) (eCall 14 (aCons (eVar 4) aNil)))
  d_law_7
theorem D_law_6 (F : List Sem1) (sv : SE) : d_law_6 F sv = sSeq (sAsg 6 (.call 14) (eCall 14 (aCons (eVar 4) aNil)))
  d_law_7 F sv := by kernel_rfl
def d_law_5 : DenS := sSeq (sAsg 5 (.call 1) (eCall 1 (aCons (eVar 4) aNil)))
  d_law_6
theorem D_law_5 (F : List Sem1) (sv : SE) : d_law_5 F sv = sSeq (sAsg 5 (.call 1) (eCall 1 (aCons (eVar 4) aNil)))
  d_law_6 F sv := by kernel_rfl
def d_law_4 : DenS := sSeq (sIf (tB (eBin .eq (eIx (eVar 1) (eC (.int 5))) (eC (.int 1))))
  (sSeq (sAsg 4 .yes (eBin .add (eVar 4) (eStep 2 (eVar 4) (some (eBin .mod (eIx (eVar 1) (eC (.int 9))) (eC (.int 7)))) none)))
    sNil)
  sNil)
  d_law_5
theorem D_law_4 (F : List Sem1) (sv : SE) : d_law_4 F sv = sSeq (sIf (tB (eBin .eq (eIx (eVar 1) (eC (.int 5))) (eC (.int 1))))
  (sSeq (sAsg 4 .yes (eBin .add (eVar 4) (eStep 2 (eVar 4) (some (eBin .mod (eIx (eVar 1) (eC (.int 9))) (eC (.int 7)))) none)))
    sNil)
  sNil)
  d_law_5 F sv := by kernel_rfl
def d_law_3 : DenS := sSeq (sAsg 4 (.call 13) (eCall 13 (aCons (eVar 0) (aCons (eC (.int 1)) (aCons (eIx (eVar 1) (eC (.int 0))) (aCons (eVar 2) (aCons (eVar 3) (aCons (eC (.int 0)) (aCons (eBin .add (eC (.int 9)) (eBin .mul (eC (.int 11)) (eIx (eVar 1) (eC (.int 8))))) aNil)))))))))
  d_law_4
theorem D_law_3 (F : List Sem1) (sv : SE) : d_law_3 F sv = sSeq (sAsg 4 (.call 13) (eCall 13 (aCons (eVar 0) (aCons (eC (.int 1)) (aCons (eIx (eVar 1) (eC (.int 0))) (aCons (eVar 2) (aCons (eVar 3) (aCons (eC (.int 0)) (aCons (eBin .add (eC (.int 9)) (eBin .mul (eC (.int 11)) (eIx (eVar 1) (eC (.int 8))))) aNil)))))))))
  d_law_4 F sv := by kernel_rfl
def d_law_2 : DenS := sSeq (sAsg 3 (.call 11) (eCall 11 (aCons (eBin .add (eIx (eVar 1) (eC (.int 3))) (eC (.int 50))) (aCons (eIx (eVar 1) (eC (.int 4))) (aCons (eBin .add (eC (.int 2)) (eIx (eVar 1) (eC (.int 2)))) aNil)))))
  d_law_3
theorem D_law_2 (F : List Sem1) (sv : SE) : d_law_2 F sv = sSeq (sAsg 3 (.call 11) (eCall 11 (aCons (eBin .add (eIx (eVar 1) (eC (.int 3))) (eC (.int 50))) (aCons (eIx (eVar 1) (eC (.int 4))) (aCons (eBin .add (eC (.int 2)) (eIx (eVar 1) (eC (.int 2)))) aNil)))))
  d_law_3 F sv := by kernel_rfl
def d_law_1 : DenS := sSeq (sAsg 2 (.call 11) (eCall 11 (aCons (eIx (eVar 1) (eC (.int 3))) (aCons (eIx (eVar 1) (eC (.int 4))) (aCons (eBin .add (eC (.int 2)) (eIx (eVar 1) (eC (.int 1)))) aNil)))))
  d_law_2
theorem D_law_1 (F : List Sem1) (sv : SE) : d_law_1 F sv = sSeq (sAsg 2 (.call 11) (eCall 11 (aCons (eIx (eVar 1) (eC (.int 3))) (aCons (eIx (eVar 1) (eC (.int 4))) (aCons (eBin .add (eC (.int 2)) (eIx (eVar 1) (eC (.int 1)))) aNil)))))
  d_law_2 F sv := by kernel_rfl
def d_law_0 : DenS := sSeq (sAsg 1 (.call 8) (eCall 8 (aCons (eCall 7 (aCons (eVar 0) (aCons (eC (.int 0)) aNil))) (aCons (eLst (aCons (eC (.int 31)) (aCons (eC (.int 4)) (aCons (eC (.int 3)) (aCons (eC (.int 999)) (aCons (eC (.int 5)) (aCons (eC (.int 2)) (aCons (eC (.int 5)) (aCons (eC (.int 5)) (aCons (eC (.int 5)) (aCons (eC (.int 97)) aNil))))))))))) aNil))))
  d_law_1
theorem D_law_0 (F : List Sem1) (sv : SE) : d_law_0 F sv = sSeq (sAsg 1 (.call 8) (eCall 8 (aCons (eCall 7 (aCons (eVar 0) (aCons (eC (.int 0)) aNil))) (aCons (eLst (aCons (eC (.int 31)) (aCons (eC (.int 4)) (aCons (eC (.int 3)) (aCons (eC (.int 999)) (aCons (eC (.int 5)) (aCons (eC (.int 2)) (aCons (eC (.int 5)) (aCons (eC (.int 5)) (aCons (eC (.int 5)) (aCons (eC (.int 97)) aNil))))))))))) aNil))))
  d_law_1 F sv := by kernel_rfl
-- U_law: D_law_0, D_law_1, D_law_2, D_law_3, D_law_4, D_law_5, D_law_6, D_law_7, D_law_8, D_law_9, D_law_10, D_law_11, D_law_12, D_law_13, D_law_14, D_law_15, D_law_16, D_law_17, D_law_18
theorem e_law : denSs ⟨n_law, tT, tBs, tGs⟩ big (defScope s_law) 60 (defBody s_law) = d_law_0 := by kernel_rfl
def F0 : List Sem1 := [semLen, semList, semMin, semSorted]
def x_in_order : Sem1 := ⟨runD true 1 1 d_in_order_0 F0, true⟩
theorem G_in_order_sorted : F0[3]? = some semSorted := by kernel_rfl
theorem fr_in_order : x_in_order.fresh = true := by kernel_rfl
theorem R_in_order (y0 : D) : x_in_order.run [y0] = outD true (d_in_order_0 F0 [some (.d y0)]) := by kernel_rfl
def F1 : List Sem1 := [semLen, semList, semMin, semSorted, x_in_order]
def x_of_field : Sem1 := ⟨runD true 2 3 d_of_field_0 F1, true⟩
theorem G_of_field_in_order : F1[4]? = some x_in_order := by kernel_rfl
theorem fr_of_field : x_of_field.fresh = true := by kernel_rfl
theorem R_of_field (y0 y1 : D) : x_of_field.run [y0, y1] = outD true (d_of_field_0 F1 [some (.d y0), some (.d y1), none]) := by kernel_rfl
def F2 : List Sem1 := [semLen, semList, semMin, semSorted, x_in_order, x_of_field]
def x_walks : Sem1 := ⟨runD true 3 4 d_walks_0 F2, true⟩
theorem G_walks_sorted : F2[3]? = some semSorted := by kernel_rfl
theorem fr_walks : x_walks.fresh = true := by kernel_rfl
theorem R_walks (y0 y1 y2 : D) : x_walks.run [y0, y1, y2] = outD true (d_walks_0 F2 [some (.d y0), some (.d y1), some (.d y2), none]) := by kernel_rfl
def F3 : List Sem1 := [semLen, semList, semMin, semSorted, x_in_order, x_of_field, x_walks]
def x_cell : Sem1 := ⟨runD true 2 2 d_cell_0 F3, true⟩
theorem G_cell_len : F3[0]? = some semLen := by kernel_rfl
theorem fr_cell : x_cell.fresh = true := by kernel_rfl
theorem R_cell (y0 y1 : D) : x_cell.run [y0, y1] = outD true (d_cell_0 F3 [some (.d y0), some (.d y1)]) := by kernel_rfl
def F4 : List Sem1 := [semLen, semList, semMin, semSorted, x_in_order, x_of_field, x_walks, x_cell]
def x_digits : Sem1 := ⟨runD true 2 8 d_digits_0 F4, true⟩
theorem G_digits_len : F4[0]? = some semLen := by kernel_rfl
theorem fr_digits : x_digits.fresh = true := by kernel_rfl
theorem R_digits (y0 y1 : D) : x_digits.run [y0, y1] = outD true (d_digits_0 F4 [some (.d y0), some (.d y1), none, none, none, none, none, none]) := by kernel_rfl
def F5 : List Sem1 := [semLen, semList, semMin, semSorted, x_in_order, x_of_field, x_walks, x_cell, x_digits]
def x_whole : Sem1 := ⟨runD true 1 1 d_whole_0 F5, true⟩
theorem fr_whole : x_whole.fresh = true := by kernel_rfl
theorem R_whole (y0 : D) : x_whole.run [y0] = outD true (d_whole_0 F5 [some (.d y0)]) := by kernel_rfl
def F6 : List Sem1 := [semLen, semList, semMin, semSorted, x_in_order, x_of_field, x_walks, x_cell, x_digits, x_whole]
def F_like_0 : List Sem1 := F6
def x_like_0 : Sem1 := ⟨runD true 2 4 d_like_0 F_like_0, true⟩
def F_like_1 : List Sem1 := [semLen, semList, semMin, semSorted, x_in_order, x_of_field, x_walks, x_cell, x_digits, x_whole, x_like_0]
theorem A_like_0 : F6 ++ [x_like_0] = F_like_1 := by kernel_rfl
theorem G_like_like_1 : F_like_1[10]? = some x_like_0 := by kernel_rfl
def x_like_1 : Sem1 := ⟨runD true 2 4 d_like_0 F_like_1, true⟩
def F_like_2 : List Sem1 := [semLen, semList, semMin, semSorted, x_in_order, x_of_field, x_walks, x_cell, x_digits, x_whole, x_like_1]
theorem A_like_1 : F6 ++ [x_like_1] = F_like_2 := by kernel_rfl
theorem G_like_like_2 : F_like_2[10]? = some x_like_1 := by kernel_rfl
def x_like_2 : Sem1 := ⟨runD true 2 4 d_like_0 F_like_2, true⟩
def F_like_3 : List Sem1 := [semLen, semList, semMin, semSorted, x_in_order, x_of_field, x_walks, x_cell, x_digits, x_whole, x_like_2]
theorem A_like_2 : F6 ++ [x_like_2] = F_like_3 := by kernel_rfl
theorem G_like_like_3 : F_like_3[10]? = some x_like_2 := by kernel_rfl
theorem G_like_len_0 : F_like_0[0]? = some semLen := by kernel_rfl
theorem G_like_whole_0 : F_like_0[9]? = some x_whole := by kernel_rfl
theorem R_like_0 (y0 y1 : D) : x_like_0.run [y0, y1] = outD true (d_like_0 F_like_0 [some (.d y0), some (.d y1), none, none]) := by kernel_rfl
theorem G_like_len_1 : F_like_1[0]? = some semLen := by kernel_rfl
theorem G_like_whole_1 : F_like_1[9]? = some x_whole := by kernel_rfl
theorem R_like_1 (y0 y1 : D) : x_like_1.run [y0, y1] = outD true (d_like_0 F_like_1 [some (.d y0), some (.d y1), none, none]) := by kernel_rfl
theorem G_like_len_2 : F_like_2[0]? = some semLen := by kernel_rfl
theorem G_like_whole_2 : F_like_2[9]? = some x_whole := by kernel_rfl
theorem R_like_2 (y0 y1 : D) : x_like_2.run [y0, y1] = outD true (d_like_0 F_like_2 [some (.d y0), some (.d y1), none, none]) := by kernel_rfl
theorem G_like_len_3 : F_like_3[0]? = some semLen := by kernel_rfl
theorem G_like_whole_3 : F_like_3[9]? = some x_whole := by kernel_rfl
theorem R_like_3 (y0 y1 : D) : (⟨runD true 2 4 d_like_0 F_like_3, true⟩ : Sem1).run [y0, y1] = outD true (d_like_0 F_like_3 [some (.d y0), some (.d y1), none, none]) := by kernel_rfl
def x_like : Sem1 := ⟨runD true 2 4 d_like_0 F_like_3, true⟩
theorem R_like (y0 y1 : D) : x_like.run [y0, y1] = outD true (d_like_0 F_like_3 [some (.d y0), some (.d y1), none, none]) := by kernel_rfl
theorem fr_like : x_like.fresh = true := by kernel_rfl
def F7 : List Sem1 := [semLen, semList, semMin, semSorted, x_in_order, x_of_field, x_walks, x_cell, x_digits, x_whole, x_like]
def x_folk : Sem1 := ⟨runD true 3 4 d_folk_0 F7, true⟩
theorem fr_folk : x_folk.fresh = true := by kernel_rfl
theorem R_folk (y0 y1 y2 : D) : x_folk.run [y0, y1, y2] = outD true (d_folk_0 F7 [some (.d y0), some (.d y1), some (.d y2), none]) := by kernel_rfl
def F8 : List Sem1 := [semLen, semList, semMin, semSorted, x_in_order, x_of_field, x_walks, x_cell, x_digits, x_whole, x_like, x_folk]
def x_fact : Sem1 := ⟨runD true 5 11 d_fact_0 F8, true⟩
theorem G_fact_digits : F8[8]? = some x_digits := by kernel_rfl
theorem G_fact_len : F8[0]? = some semLen := by kernel_rfl
theorem fr_fact : x_fact.fresh = true := by kernel_rfl
theorem R_fact (y0 y1 y2 y3 y4 : D) : x_fact.run [y0, y1, y2, y3, y4] = outD true (d_fact_0 F8 [some (.d y0), some (.d y1), some (.d y2), some (.d y3), some (.d y4), none, none, none, none, none, none]) := by kernel_rfl
def F9 : List Sem1 := [semLen, semList, semMin, semSorted, x_in_order, x_of_field, x_walks, x_cell, x_digits, x_whole, x_like, x_folk, x_fact]
def x_few : Sem1 := ⟨runD true 7 14 d_few_0 F9, true⟩
theorem G_few_digits : F9[8]? = some x_digits := by kernel_rfl
theorem G_few_fact : F9[12]? = some x_fact := by kernel_rfl
theorem G_few_cell : F9[7]? = some x_cell := by kernel_rfl
theorem G_few_len : F9[0]? = some semLen := by kernel_rfl
theorem G_few_min : F9[2]? = some semMin := by kernel_rfl
theorem fr_few : x_few.fresh = true := by kernel_rfl
theorem R_few (y0 y1 y2 y3 y4 y5 y6 : D) : x_few.run [y0, y1, y2, y3, y4, y5, y6] = outD true (d_few_0 F9 [some (.d y0), some (.d y1), some (.d y2), some (.d y3), some (.d y4), some (.d y5), some (.d y6), none, none, none, none, none, none, none]) := by kernel_rfl
def F10 : List Sem1 := [semLen, semList, semMin, semSorted, x_in_order, x_of_field, x_walks, x_cell, x_digits, x_whole, x_like, x_folk, x_fact, x_few]
def x_sorted : Sem1 := ⟨runD true 1 4 d_sorted_0 F10, true⟩
theorem G_sorted_len : F10[0]? = some semLen := by kernel_rfl
theorem fr_sorted : x_sorted.fresh = true := by kernel_rfl
theorem R_sorted (y0 : D) : x_sorted.run [y0] = outD true (d_sorted_0 F10 [some (.d y0), none, none, none]) := by kernel_rfl
def F11 : List Sem1 := [semLen, semList, semMin, semSorted, x_in_order, x_of_field, x_walks, x_cell, x_digits, x_whole, x_like, x_folk, x_fact, x_few, x_sorted]
def x_law : Sem1 := ⟨runD true 1 18 d_law_0 F11, true⟩
theorem G_law_digits : F11[8]? = some x_digits := by kernel_rfl
theorem G_law_folk : F11[11]? = some x_folk := by kernel_rfl
theorem G_law_few : F11[13]? = some x_few := by kernel_rfl
theorem G_law_list : F11[1]? = some semList := by kernel_rfl
theorem G_law_sorted : F11[14]? = some x_sorted := by kernel_rfl
theorem G_law_in_order : F11[4]? = some x_in_order := by kernel_rfl
theorem G_law_cell : F11[7]? = some x_cell := by kernel_rfl
theorem G_law_of_field : F11[5]? = some x_of_field := by kernel_rfl
theorem G_law_walks : F11[6]? = some x_walks := by kernel_rfl
theorem G_law_like : F11[10]? = some x_like := by kernel_rfl
theorem G_law_len : F11[0]? = some semLen := by kernel_rfl
theorem fr_law : x_law.fresh = true := by kernel_rfl
theorem R_law (y0 : D) : x_law.run [y0] = outD true (d_law_0 F11 [some (.d y0), none, none, none, none, none, none, none, none, none, none, none, none, none, none, none, none, none]) := by kernel_rfl
def F12 : List Sem1 := [semLen, semList, semMin, semSorted, x_in_order, x_of_field, x_walks, x_cell, x_digits, x_whole, x_like, x_folk, x_fact, x_few, x_sorted, x_law]
theorem A_0 : F0 ++ [x_in_order] = F1 := by kernel_rfl
theorem A'_0 : tT[F0.length]? = some "in_order" := by kernel_rfl
theorem A_1 : F1 ++ [x_of_field] = F2 := by kernel_rfl
theorem A'_1 : tT[F1.length]? = some "of_field" := by kernel_rfl
theorem A_2 : F2 ++ [x_walks] = F3 := by kernel_rfl
theorem A'_2 : tT[F2.length]? = some "walks" := by kernel_rfl
theorem A_3 : F3 ++ [x_cell] = F4 := by kernel_rfl
theorem A'_3 : tT[F3.length]? = some "_law_cell" := by kernel_rfl
theorem A_4 : F4 ++ [x_digits] = F5 := by kernel_rfl
theorem A'_4 : tT[F4.length]? = some "_law_digits" := by kernel_rfl
theorem A_5 : F5 ++ [x_whole] = F6 := by kernel_rfl
theorem A'_5 : tT[F5.length]? = some "_law_whole" := by kernel_rfl
theorem A_6 : F6 ++ [x_like] = F7 := by kernel_rfl
theorem A'_6 : tT[F6.length]? = some "_law_like" := by kernel_rfl
theorem A_7 : F7 ++ [x_folk] = F8 := by kernel_rfl
theorem A'_7 : tT[F7.length]? = some "_law_folk" := by kernel_rfl
theorem A_8 : F8 ++ [x_fact] = F9 := by kernel_rfl
theorem A'_8 : tT[F8.length]? = some "_law_fact" := by kernel_rfl
theorem A_9 : F9 ++ [x_few] = F10 := by kernel_rfl
theorem A'_9 : tT[F9.length]? = some "_law_few" := by kernel_rfl
theorem A_10 : F10 ++ [x_sorted] = F11 := by kernel_rfl
theorem A'_10 : tT[F10.length]? = some "_law_sorted" := by kernel_rfl
theorem A_11 : F11 ++ [x_law] = F12 := by kernel_rfl
theorem A'_11 : tT[F11.length]? = some "law" := by kernel_rfl
section
variable {P : Program} {w : World} {K : PySem.W.Frag} {mg : Str → Option Value} {base : Heap}
theorem lib0 (hB : ∀ x ∈ tBs, mg x = none) : Lib P w K mg base 0 tT F0 := by
  have l0 : Lib P w K mg base 0 tT [] := Lib.nil
  have l1 := l0.addB (x := "len") (s := semLen) (id := "len") rfl (hB _ (by decide +kernel)) (by decide +kernel) (by decide +kernel) (fun X c u => ok_len)
  have l2 := l1.addT (x := "list") (s := semList) (id := "list") rfl (hB _ (by decide +kernel)) (by decide +kernel) (by decide +kernel) (fun X c u => ok_list c)
  have l3 := l2.addB (x := "min") (s := semMin) (id := "min") rfl (hB _ (by decide +kernel)) (by decide +kernel) (by decide +kernel) (fun X c u => ok_min c)
  have l4 := l3.addB (x := "sorted") (s := semSorted) (id := "sorted") rfl (hB _ (by decide +kernel)) (by decide +kernel) (by decide +kernel) (fun X c u => ok_sorted u)
  exact l4
end
theorem all_mk {l : PySem.W.OpenLaw} {w : World} {K : PySem.W.Frag} {h : Heap} {mg : Str → Option Value} {fa : Addr} (X : K.In h) (G : h.Ns mainGlobals mg) (hfa : mg "law" = some (.ref fa))
    {f0 : Addr} {od0 an0 : Option Addr} {sl0 : Array (Option Value)} {oc0 kV0 dc0 pm0 cd0 ct0 : Value}
    {f1 : Addr} {od1 an1 : Option Addr} {sl1 : Array (Option Value)} {oc1 kV1 dc1 pm1 cd1 ct1 : Value}
    {f2 : Addr} {od2 an2 : Option Addr} {sl2 : Array (Option Value)} {oc2 kV2 dc2 pm2 cd2 ct2 : Value}
    {f3 : Addr} {od3 an3 : Option Addr} {sl3 : Array (Option Value)} {oc3 kV3 dc3 pm3 cd3 ct3 : Value}
    {f4 : Addr} {od4 an4 : Option Addr} {sl4 : Array (Option Value)} {oc4 kV4 dc4 pm4 cd4 ct4 : Value}
    {f5 : Addr} {od5 an5 : Option Addr} {sl5 : Array (Option Value)} {oc5 kV5 dc5 pm5 cd5 ct5 : Value}
    {f6 : Addr} {od6 an6 : Option Addr} {sl6 : Array (Option Value)} {oc6 kV6 dc6 pm6 cd6 ct6 : Value}
    {f7 : Addr} {od7 an7 : Option Addr} {sl7 : Array (Option Value)} {oc7 kV7 dc7 pm7 cd7 ct7 : Value}
    {f8 : Addr} {od8 an8 : Option Addr} {sl8 : Array (Option Value)} {oc8 kV8 dc8 pm8 cd8 ct8 : Value}
    {f9 : Addr} {od9 an9 : Option Addr} {sl9 : Array (Option Value)} {oc9 kV9 dc9 pm9 cd9 ct9 : Value}
    {f10 : Addr} {od10 an10 : Option Addr} {sl10 : Array (Option Value)} {oc10 kV10 dc10 pm10 cd10 ct10 : Value}
    {f11 : Addr} {od11 an11 : Option Addr} {sl11 : Array (Option Value)} {oc11 kV11 dc11 pm11 cd11 ct11 : Value}
    (a0 : PySem.W.nsIn K mainGlobals "in_order" = some (some (.ref f0))) (l0 : K.lookup f0 = some ⟨oc0, od0, .func (PySem.W.fnOf "in_order" "in_order" (defArgs s_in_order) (defBody s_in_order) (defScope s_in_order) .none kV0 dc0 pm0 an0 cd0 ct0), sl0⟩) (c0 : PySem.W.codeIn K cd0 "in_order" = true) (k0 : PySem.W.keepIn K (.ref f0) = true)
    (a1 : PySem.W.nsIn K mainGlobals "of_field" = some (some (.ref f1))) (l1 : K.lookup f1 = some ⟨oc1, od1, .func (PySem.W.fnOf "of_field" "of_field" (defArgs s_of_field) (defBody s_of_field) (defScope s_of_field) .none kV1 dc1 pm1 an1 cd1 ct1), sl1⟩) (c1 : PySem.W.codeIn K cd1 "of_field" = true) (k1 : PySem.W.keepIn K (.ref f1) = true)
    (a2 : PySem.W.nsIn K mainGlobals "walks" = some (some (.ref f2))) (l2 : K.lookup f2 = some ⟨oc2, od2, .func (PySem.W.fnOf "walks" "walks" (defArgs s_walks) (defBody s_walks) (defScope s_walks) .none kV2 dc2 pm2 an2 cd2 ct2), sl2⟩) (c2 : PySem.W.codeIn K cd2 "walks" = true) (k2 : PySem.W.keepIn K (.ref f2) = true)
    (a3 : PySem.W.nsIn K mainGlobals "_law_cell" = some (some (.ref f3))) (l3 : K.lookup f3 = some ⟨oc3, od3, .func (PySem.W.fnOf "_law_cell" "_law_cell" (defArgs s_cell) (defBody s_cell) (defScope s_cell) .none kV3 dc3 pm3 an3 cd3 ct3), sl3⟩) (c3 : PySem.W.codeIn K cd3 "_law_cell" = true) (k3 : PySem.W.keepIn K (.ref f3) = true)
    (a4 : PySem.W.nsIn K mainGlobals "_law_digits" = some (some (.ref f4))) (l4 : K.lookup f4 = some ⟨oc4, od4, .func (PySem.W.fnOf "_law_digits" "_law_digits" (defArgs s_digits) (defBody s_digits) (defScope s_digits) .none kV4 dc4 pm4 an4 cd4 ct4), sl4⟩) (c4 : PySem.W.codeIn K cd4 "_law_digits" = true) (k4 : PySem.W.keepIn K (.ref f4) = true)
    (a5 : PySem.W.nsIn K mainGlobals "_law_whole" = some (some (.ref f5))) (l5 : K.lookup f5 = some ⟨oc5, od5, .func (PySem.W.fnOf "_law_whole" "_law_whole" (defArgs s_whole) (defBody s_whole) (defScope s_whole) .none kV5 dc5 pm5 an5 cd5 ct5), sl5⟩) (c5 : PySem.W.codeIn K cd5 "_law_whole" = true) (k5 : PySem.W.keepIn K (.ref f5) = true)
    (a6 : PySem.W.nsIn K mainGlobals "_law_like" = some (some (.ref f6))) (l6 : K.lookup f6 = some ⟨oc6, od6, .func (PySem.W.fnOf "_law_like" "_law_like" (defArgs s_like) (defBody s_like) (defScope s_like) .none kV6 dc6 pm6 an6 cd6 ct6), sl6⟩) (c6 : PySem.W.codeIn K cd6 "_law_like" = true) (k6 : PySem.W.keepIn K (.ref f6) = true)
    (a7 : PySem.W.nsIn K mainGlobals "_law_folk" = some (some (.ref f7))) (l7 : K.lookup f7 = some ⟨oc7, od7, .func (PySem.W.fnOf "_law_folk" "_law_folk" (defArgs s_folk) (defBody s_folk) (defScope s_folk) .none kV7 dc7 pm7 an7 cd7 ct7), sl7⟩) (c7 : PySem.W.codeIn K cd7 "_law_folk" = true) (k7 : PySem.W.keepIn K (.ref f7) = true)
    (a8 : PySem.W.nsIn K mainGlobals "_law_fact" = some (some (.ref f8))) (l8 : K.lookup f8 = some ⟨oc8, od8, .func (PySem.W.fnOf "_law_fact" "_law_fact" (defArgs s_fact) (defBody s_fact) (defScope s_fact) .none kV8 dc8 pm8 an8 cd8 ct8), sl8⟩) (c8 : PySem.W.codeIn K cd8 "_law_fact" = true) (k8 : PySem.W.keepIn K (.ref f8) = true)
    (a9 : PySem.W.nsIn K mainGlobals "_law_few" = some (some (.ref f9))) (l9 : K.lookup f9 = some ⟨oc9, od9, .func (PySem.W.fnOf "_law_few" "_law_few" (defArgs s_few) (defBody s_few) (defScope s_few) .none kV9 dc9 pm9 an9 cd9 ct9), sl9⟩) (c9 : PySem.W.codeIn K cd9 "_law_few" = true) (k9 : PySem.W.keepIn K (.ref f9) = true)
    (a10 : PySem.W.nsIn K mainGlobals "_law_sorted" = some (some (.ref f10))) (l10 : K.lookup f10 = some ⟨oc10, od10, .func (PySem.W.fnOf "_law_sorted" "_law_sorted" (defArgs s_sorted) (defBody s_sorted) (defScope s_sorted) .none kV10 dc10 pm10 an10 cd10 ct10), sl10⟩) (c10 : PySem.W.codeIn K cd10 "_law_sorted" = true) (k10 : PySem.W.keepIn K (.ref f10) = true)
    (a11 : PySem.W.nsIn K mainGlobals "law" = some (some (.ref f11))) (l11 : K.lookup f11 = some ⟨oc11, od11, .func (PySem.W.fnOf "law" "law" (defArgs s_law) (defBody s_law) (defScope s_law) .none kV11 dc11 pm11 an11 cd11 ct11), sl11⟩) (c11 : PySem.W.codeIn K cd11 "law" = true) (k11 : PySem.W.keepIn K (.ref f11) = true)
    (z0 : PySem.W.nsIn K mainGlobals "bool" = some none)
    (z1 : PySem.W.nsIn K mainGlobals "int" = some none)
    (z2 : PySem.W.nsIn K mainGlobals "isinstance" = some none)
    (z3 : PySem.W.nsIn K mainGlobals "len" = some none)
    (z4 : PySem.W.nsIn K mainGlobals "list" = some none)
    (z5 : PySem.W.nsIn K mainGlobals "min" = some none)
    (z6 : PySem.W.nsIn K mainGlobals "range" = some none)
    (z7 : PySem.W.nsIn K mainGlobals "sorted" = some none)
    (z8 : PySem.W.nsIn K mainGlobals "str" = some none)
    (z9 : PySem.W.nsIn K mainGlobals "tuple" = some none)
    (z10 : PySem.W.nsIn K mainGlobals "zip" = some none)
    (hlaw : ∀ ns : List Int, ns.length ≤ 63 → x_law.run [scrD ns] = some (.bool true)) :
    ∃ fd : FuncData, (∀ (s : Shared) (v : Value), BindsTo s fd ⟨[v], []⟩ [("_law_script", v)]) ∧ ∀ base : Heap, K.In base → base.Ns mainGlobals mg → FnOk l.prog w K mg base CX0 15 fa fd ["_law_script"] (spLaw K) := by
  have e := hfa.symm.trans (PySem.W.mg_of X G a11)
  cases e
  have hB : ∀ x ∈ tBs, mg x = none := by
    intro x hx
    unfold tBs at hx
    simp only [List.mem_cons, List.not_mem_nil, or_false] at hx
    rcases hx with rfl | rfl | rfl | rfl | rfl | rfl | rfl | rfl | rfl | rfl | rfl
    · exact PySem.W.mg_none_of X G z0
    · exact PySem.W.mg_none_of X G z1
    · exact PySem.W.mg_none_of X G z2
    · exact PySem.W.mg_none_of X G z3
    · exact PySem.W.mg_none_of X G z4
    · exact PySem.W.mg_none_of X G z5
    · exact PySem.W.mg_none_of X G z6
    · exact PySem.W.mg_none_of X G z7
    · exact PySem.W.mg_none_of X G z8
    · exact PySem.W.mg_none_of X G z9
    · exact PySem.W.mg_none_of X G z10
  have T0 := fun_mk (st := s_in_order) l0 c0 k0
  have b0 := T0.binds (ps := ["facts"]) fun _ _ _ _ _ _ us hl => match us, hl with | [_], _ => rfl
  have T1 := fun_mk (st := s_of_field) l1 c1 k1
  have b1 := T1.binds (ps := ["facts", "field"]) fun _ _ _ _ _ _ us hl => match us, hl with | [_, _], _ => rfl
  have T2 := fun_mk (st := s_walks) l2 c2 k2
  have b2 := T2.binds (ps := ["facts", "over", "to"]) fun _ _ _ _ _ _ us hl => match us, hl with | [_, _, _], _ => rfl
  have T3 := fun_mk (st := s_cell) l3 c3 k3
  have b3 := T3.binds (ps := ["_law_script", "_law_k"]) fun _ _ _ _ _ _ us hl => match us, hl with | [_, _], _ => rfl
  have T4 := fun_mk (st := s_digits) l4 c4 k4
  have b4 := T4.binds (ps := ["_law_cell_here", "_law_sizes"]) fun _ _ _ _ _ _ us hl => match us, hl with | [_, _], _ => rfl
  have T5 := fun_mk (st := s_whole) l5 c5 k5
  have b5 := T5.binds (ps := ["_law_thing"]) fun _ _ _ _ _ _ us hl => match us, hl with | [_], _ => rfl
  have T6 := fun_mk (st := s_like) l6 c6 k6
  have b6 := T6.binds (ps := ["_law_found", "_law_due"]) fun _ _ _ _ _ _ us hl => match us, hl with | [_, _], _ => rfl
  have T7 := fun_mk (st := s_folk) l7 c7 k7
  have b7 := T7.binds (ps := ["_law_start", "_law_step", "_law_many"]) fun _ _ _ _ _ _ us hl => match us, hl with | [_, _, _], _ => rfl
  have T8 := fun_mk (st := s_fact) l8 c8 k8
  have b8 := T8.binds (ps := ["_law_cell_here", "_law_field", "_law_folk_here", "_law_base", "_law_wide"]) fun _ _ _ _ _ _ us hl => match us, hl with | [_, _, _, _, _], _ => rfl
  have T9 := fun_mk (st := s_few) l9 c9 k9
  have b9 := T9.binds (ps := ["_law_script", "_law_start", "_law_many", "_law_folk_here", "_law_fields", "_law_base", "_law_wide"]) fun _ _ _ _ _ _ us hl => match us, hl with | [_, _, _, _, _, _, _], _ => rfl
  have T10 := fun_mk (st := s_sorted) l10 c10 k10
  have b10 := T10.binds (ps := ["_law_facts"]) fun _ _ _ _ _ _ us hl => match us, hl with | [_], _ => rfl
  have T11 := fun_mk (st := s_law) l11 c11 k11
  have b11 := T11.binds (ps := ["_law_script"]) fun _ _ _ _ _ _ us hl => match us, hl with | [_], _ => rfl
  have hG : ∀ p ∈ tGs, GOk K w mg p := by
    intro p hp
    unfold tGs at hp
    simp only [List.mem_cons, List.not_mem_nil, or_false] at hp
    try (exact hp.elim)
  refine ⟨PySem.W.fnOf "law" "law" (defArgs s_law) (defBody s_law) (defScope s_law) .none kV11 dc11 pm11 an11 cd11 ct11, fun s v => .of_eq rfl, fun base _ _ => ?_⟩
  have L0 : Lib l.prog w K mg base 0 tT F0 := lib0 hB
  have G0 : FnOk l.prog w K mg base CX0 (0 + 1) f0 _ ["facts"] (spS K x_in_order 1) := def_ok T0 sc_in_order L0 hB hG e_in_order
  have L1 : Lib l.prog w K mg base 1 tT F1 := by
    rw [← A_0]
    exact L0.add (x := "in_order") (s := x_in_order) A'_0 G0 b0 (fun ds d h => runD_len h) (PySem.W.mg_of X G a0) k0
  have G1 : FnOk l.prog w K mg base CX0 (1 + 1) f1 _ ["facts", "field"] (spS K x_of_field 2) := def_ok T1 sc_of_field L1 hB hG e_of_field
  have L2 : Lib l.prog w K mg base 2 tT F2 := by
    rw [← A_1]
    exact L1.add (x := "of_field") (s := x_of_field) A'_1 G1 b1 (fun ds d h => runD_len h) (PySem.W.mg_of X G a1) k1
  have G2 : FnOk l.prog w K mg base CX0 (2 + 1) f2 _ ["facts", "over", "to"] (spS K x_walks 3) := def_ok T2 sc_walks L2 hB hG e_walks
  have L3 : Lib l.prog w K mg base 3 tT F3 := by
    rw [← A_2]
    exact L2.add (x := "walks") (s := x_walks) A'_2 G2 b2 (fun ds d h => runD_len h) (PySem.W.mg_of X G a2) k2
  have G3 : FnOk l.prog w K mg base CX0 (3 + 1) f3 _ ["_law_script", "_law_k"] (spS K x_cell 2) := def_ok T3 sc_cell L3 hB hG e_cell
  have L4 : Lib l.prog w K mg base 4 tT F4 := by
    rw [← A_3]
    exact L3.add (x := "_law_cell") (s := x_cell) A'_3 G3 b3 (fun ds d h => runD_len h) (PySem.W.mg_of X G a3) k3
  have G4 : FnOk l.prog w K mg base CX0 (4 + 1) f4 _ ["_law_cell_here", "_law_sizes"] (spS K x_digits 2) := def_ok T4 sc_digits L4 hB hG e_digits
  have L5 : Lib l.prog w K mg base 5 tT F5 := by
    rw [← A_4]
    exact L4.add (x := "_law_digits") (s := x_digits) A'_4 G4 b4 (fun ds d h => runD_len h) (PySem.W.mg_of X G a4) k4
  have G5 : FnOk l.prog w K mg base CX0 (5 + 1) f5 _ ["_law_thing"] (spS K x_whole 1) := def_ok T5 sc_whole L5 hB hG e_whole
  have L6 : Lib l.prog w K mg base 6 tT F6 := by
    rw [← A_5]
    exact L5.add (x := "_law_whole") (s := x_whole) A'_5 G5 b5 (fun ds d h => runD_len h) (PySem.W.mg_of X G a5) k5
  have K6_0 : Lib l.prog w K mg base 6 tT F_like_0 := L6
  have G6_0 : FnOk l.prog w K mg base CX0 (6 + 1) f6 _ ["_law_found", "_law_due"] (spS K x_like_0 2) := def_ok T6 sc_like K6_0 hB hG e_like
  have K6_1 : Lib l.prog w K mg base 7 tT F_like_1 := by
    rw [← A_like_0]
    exact (L6.up 0 rfl).add (x := "_law_like") (s := x_like_0) A'_6 G6_0 b6 (fun ds d h => runD_len h) (PySem.W.mg_of X G a6) k6
  have G6_1 : FnOk l.prog w K mg base CX0 (7 + 1) f6 _ ["_law_found", "_law_due"] (spS K x_like_1 2) := def_ok T6 sc_like K6_1 hB hG e_like
  have K6_2 : Lib l.prog w K mg base 8 tT F_like_2 := by
    rw [← A_like_1]
    exact (L6.up 1 rfl).add (x := "_law_like") (s := x_like_1) A'_6 G6_1 b6 (fun ds d h => runD_len h) (PySem.W.mg_of X G a6) k6
  have G6_2 : FnOk l.prog w K mg base CX0 (8 + 1) f6 _ ["_law_found", "_law_due"] (spS K x_like_2 2) := def_ok T6 sc_like K6_2 hB hG e_like
  have K6_3 : Lib l.prog w K mg base 9 tT F_like_3 := by
    rw [← A_like_2]
    exact (L6.up 2 rfl).add (x := "_law_like") (s := x_like_2) A'_6 G6_2 b6 (fun ds d h => runD_len h) (PySem.W.mg_of X G a6) k6
  have G6 : FnOk l.prog w K mg base CX0 (9 + 1) f6 _ ["_law_found", "_law_due"] (spS K x_like 2) := def_ok T6 sc_like K6_3 hB hG e_like
  have L7 : Lib l.prog w K mg base 10 tT F7 := by
    rw [← A_6]
    exact (L6.up 3 rfl).add (x := "_law_like") (s := x_like) A'_6 G6 b6 (fun ds d h => runD_len h) (PySem.W.mg_of X G a6) k6
  have G7 : FnOk l.prog w K mg base CX0 (10 + 1) f7 _ ["_law_start", "_law_step", "_law_many"] (spS K x_folk 3) := def_ok T7 sc_folk L7 hB hG e_folk
  have L8 : Lib l.prog w K mg base 11 tT F8 := by
    rw [← A_7]
    exact L7.add (x := "_law_folk") (s := x_folk) A'_7 G7 b7 (fun ds d h => runD_len h) (PySem.W.mg_of X G a7) k7
  have G8 : FnOk l.prog w K mg base CX0 (11 + 1) f8 _ ["_law_cell_here", "_law_field", "_law_folk_here", "_law_base", "_law_wide"] (spS K x_fact 5) := def_ok T8 sc_fact L8 hB hG e_fact
  have L9 : Lib l.prog w K mg base 12 tT F9 := by
    rw [← A_8]
    exact L8.add (x := "_law_fact") (s := x_fact) A'_8 G8 b8 (fun ds d h => runD_len h) (PySem.W.mg_of X G a8) k8
  have G9 : FnOk l.prog w K mg base CX0 (12 + 1) f9 _ ["_law_script", "_law_start", "_law_many", "_law_folk_here", "_law_fields", "_law_base", "_law_wide"] (spS K x_few 7) := def_ok T9 sc_few L9 hB hG e_few
  have L10 : Lib l.prog w K mg base 13 tT F10 := by
    rw [← A_9]
    exact L9.add (x := "_law_few") (s := x_few) A'_9 G9 b9 (fun ds d h => runD_len h) (PySem.W.mg_of X G a9) k9
  have G10 : FnOk l.prog w K mg base CX0 (13 + 1) f10 _ ["_law_facts"] (spS K x_sorted 1) := def_ok T10 sc_sorted L10 hB hG e_sorted
  have L11 : Lib l.prog w K mg base 14 tT F11 := by
    rw [← A_10]
    exact L10.add (x := "_law_sorted") (s := x_sorted) A'_10 G10 b10 (fun ds d h => runD_len h) (PySem.W.mg_of X G a10) k10
  have G11 : FnOk l.prog w K mg base CX0 (14 + 1) fa _ ["_law_script"] (spS K x_law 1) := def_ok T11 sc_law L11 hB hG e_law
  exact law_fn rfl G11 hlaw
/-! ### cells and digits of a script -/
theorem getD_at {ns : List Int} {k : Int} (h0 : 0 ≤ k) (h : k < (ns.length : Int)) : ixD (scrD ns) (.int k) = some (.int (ns.getD k.toNat 0)) := by
  obtain ⟨m, rfl⟩ : ∃ m : Nat, k = (m : Int) := ⟨k.toNat, by omega⟩
  show ixK (ns.map fun n => ((.int n, .none) : D × D)) (.int (m : Int)) = _
  unfold ixK
  rw [tailK_scr]
  show (atI (ns.map fun n => ((.int n, .none) : D × D)) (m : Int)).map (·.1) = _
  rw [atN, List.getElem?_map]
  have hm : m < ns.length := by omega
  rw [List.getElem?_eq_getElem hm, Int.toNat_natCast, List.getD_eq_getElem?_getD, List.getElem?_eq_getElem hm]
  rfl
def cellV (ns : List Int) (k : Int) : Int := if k < (ns.length : Int) then ns.getD k.toNat 0 else 7 + 19 * k
theorem r_cell (ns : List Int) (k : Int) (hk : 0 ≤ k) : x_cell.run [scrD ns, .int k] = some (.int (cellV ns k)) := by
  rw [R_cell]
  unfold cellV
  by_cases h : k < (ns.length : Int)
  · simp only [s_seq, s_nil, then_nx, then_ret, then_brk, then_ct, r_asg, r_asgT, r_aug, r_app, r_ext, r_ins, r_clr, r_item, r_if, r_for, r_forN, fo_list, q_rev, rv_list, r_ret, r_retV, r_retN, r_brk, r_ct, r_drop, q_var, q_c, q_bin, q_neg, q_not, q_and, q_or, q_if, q_nil, q_cons, q_tup, q_lst, q_ix, q_step, step_list, q_ssc, q_opt0, q_opt1, q_sl, q_call, q_isi, q_tB, q_tVal, q_tNot, q_tAnd, q_tOr, q_tYes, q_chain, q_seq, q_range1, v_dict, frzS_nil, frzS_cons, fz1_d, fz1_o, fz1_n, q_join, q_split, q_dec, dec_str, tup_rl, f_str, f_tuple, f_int, out_retS, stv_list, r_newK, it_k, th_k, hd_k, fz_k, fz1_k, list_k, q_inT, q_getT, it_int, it_str, gt_str, any_int, r_star, stv_tup, q_zip, sq_list, sq_tup, q_range2, r2_int, sl_tup, q_inT, q_getT, it_int, it_str, gt_str, any_int, r_star, stv_tup, q_zip, sq_list, sq_tup, q_range2, r2_int, sl_tup, v_list, v_listF, v_int, v_bool, v_str, v_none, v_tup, aft_t, aft_f, mk_no, mk_yes, mk_call, ret_list, ret_no, ret_int, ret_bool, ret_str, ret_none, ret_tup, retSv_own, retSv_d, o_add, o_sub, o_mul, o_fdiv, o_mod, o_pow, o_lt, o_le, o_gt, o_ge, o_eqI, o_neI, o_eqB, o_neB, o_addL, b_bool, x_list, x_tup, at0, at1, at2, at3, at4, at5, at6, at7, at_last, atN, len_l, len_t, len_s, max_r, min_r, list_r, f_len, f_list, f_max, f_min, f_sorted, f_sum, f_any, out_ret, out_retB, out_retL, out_retT, th_d, th_o, th_n, hd_d, hd_o, hd_n, thawS_nil, thawS_cons, hideS_nil, hideS_cons, frzL_nil, frzL_cons, frzAt_eq, fz_own, fz_d, fz_n, fl_int, fl_bool, fl_str, fl_tup, fls_nil, fls_cons, fls_app, fls_ints, tg1, tg2, tx1, tx2, sv_nil, sv_cons, dn_nil, dn_cons, wd_nil, wd_cons, so_list, so_tup, ro_int, ng_int, ap_own, au_int, au_add, au_sub, tv_bool, tv_list, tv_int, Option.bind_some, Option.bind_none, Option.map_some, Option.map_none, Option.getD_some, Option.getD_none, Option.join_some, List.getElem?_cons_zero, List.getElem?_cons_succ, List.set_cons_zero, List.set_cons_succ, List.length_cons, List.length_nil, List.length_map, ite_true, ite_false, if_true, if_false, Bool.and_true, Bool.true_and, Bool.false_eq_true, decide_eq_true_eq, Bool.not_true, Bool.not_false, and_self, and_true, true_and, reduceIte, D_cell_0, D_cell_1, D_cell_2, G_cell_len, if_pos h, getD_at hk h]
  · simp only [s_seq, s_nil, then_nx, then_ret, then_brk, then_ct, r_asg, r_asgT, r_aug, r_app, r_ext, r_ins, r_clr, r_item, r_if, r_for, r_forN, fo_list, q_rev, rv_list, r_ret, r_retV, r_retN, r_brk, r_ct, r_drop, q_var, q_c, q_bin, q_neg, q_not, q_and, q_or, q_if, q_nil, q_cons, q_tup, q_lst, q_ix, q_step, step_list, q_ssc, q_opt0, q_opt1, q_sl, q_call, q_isi, q_tB, q_tVal, q_tNot, q_tAnd, q_tOr, q_tYes, q_chain, q_seq, q_range1, v_dict, frzS_nil, frzS_cons, fz1_d, fz1_o, fz1_n, q_join, q_split, q_dec, dec_str, tup_rl, f_str, f_tuple, f_int, out_retS, stv_list, r_newK, it_k, th_k, hd_k, fz_k, fz1_k, list_k, q_inT, q_getT, it_int, it_str, gt_str, any_int, r_star, stv_tup, q_zip, sq_list, sq_tup, q_range2, r2_int, sl_tup, q_inT, q_getT, it_int, it_str, gt_str, any_int, r_star, stv_tup, q_zip, sq_list, sq_tup, q_range2, r2_int, sl_tup, v_list, v_listF, v_int, v_bool, v_str, v_none, v_tup, aft_t, aft_f, mk_no, mk_yes, mk_call, ret_list, ret_no, ret_int, ret_bool, ret_str, ret_none, ret_tup, retSv_own, retSv_d, o_add, o_sub, o_mul, o_fdiv, o_mod, o_pow, o_lt, o_le, o_gt, o_ge, o_eqI, o_neI, o_eqB, o_neB, o_addL, b_bool, x_list, x_tup, at0, at1, at2, at3, at4, at5, at6, at7, at_last, atN, len_l, len_t, len_s, max_r, min_r, list_r, f_len, f_list, f_max, f_min, f_sorted, f_sum, f_any, out_ret, out_retB, out_retL, out_retT, th_d, th_o, th_n, hd_d, hd_o, hd_n, thawS_nil, thawS_cons, hideS_nil, hideS_cons, frzL_nil, frzL_cons, frzAt_eq, fz_own, fz_d, fz_n, fl_int, fl_bool, fl_str, fl_tup, fls_nil, fls_cons, fls_app, fls_ints, tg1, tg2, tx1, tx2, sv_nil, sv_cons, dn_nil, dn_cons, wd_nil, wd_cons, so_list, so_tup, ro_int, ng_int, ap_own, au_int, au_add, au_sub, tv_bool, tv_list, tv_int, Option.bind_some, Option.bind_none, Option.map_some, Option.map_none, Option.getD_some, Option.getD_none, Option.join_some, List.getElem?_cons_zero, List.getElem?_cons_succ, List.set_cons_zero, List.set_cons_succ, List.length_cons, List.length_nil, List.length_map, ite_true, ite_false, if_true, if_false, Bool.and_true, Bool.true_and, Bool.false_eq_true, decide_eq_true_eq, Bool.not_true, Bool.not_false, and_self, and_true, true_and, reduceIte, D_cell_0, D_cell_1, D_cell_2, G_cell_len, if_neg h]
    rw [if_pos (by omega)]
    simp only [s_seq, s_nil, then_nx, then_ret, then_brk, then_ct, r_asg, r_asgT, r_aug, r_app, r_ext, r_ins, r_clr, r_item, r_if, r_for, r_forN, fo_list, q_rev, rv_list, r_ret, r_retV, r_retN, r_brk, r_ct, r_drop, q_var, q_c, q_bin, q_neg, q_not, q_and, q_or, q_if, q_nil, q_cons, q_tup, q_lst, q_ix, q_step, step_list, q_ssc, q_opt0, q_opt1, q_sl, q_call, q_isi, q_tB, q_tVal, q_tNot, q_tAnd, q_tOr, q_tYes, q_chain, q_seq, q_range1, v_dict, frzS_nil, frzS_cons, fz1_d, fz1_o, fz1_n, q_join, q_split, q_dec, dec_str, tup_rl, f_str, f_tuple, f_int, out_retS, stv_list, r_newK, it_k, th_k, hd_k, fz_k, fz1_k, list_k, q_inT, q_getT, it_int, it_str, gt_str, any_int, r_star, stv_tup, q_zip, sq_list, sq_tup, q_range2, r2_int, sl_tup, q_inT, q_getT, it_int, it_str, gt_str, any_int, r_star, stv_tup, q_zip, sq_list, sq_tup, q_range2, r2_int, sl_tup, v_list, v_listF, v_int, v_bool, v_str, v_none, v_tup, aft_t, aft_f, mk_no, mk_yes, mk_call, ret_list, ret_no, ret_int, ret_bool, ret_str, ret_none, ret_tup, retSv_own, retSv_d, o_add, o_sub, o_mul, o_fdiv, o_mod, o_pow, o_lt, o_le, o_gt, o_ge, o_eqI, o_neI, o_eqB, o_neB, o_addL, b_bool, x_list, x_tup, at0, at1, at2, at3, at4, at5, at6, at7, at_last, atN, len_l, len_t, len_s, max_r, min_r, list_r, f_len, f_list, f_max, f_min, f_sorted, f_sum, f_any, out_ret, out_retB, out_retL, out_retT, th_d, th_o, th_n, hd_d, hd_o, hd_n, thawS_nil, thawS_cons, hideS_nil, hideS_cons, frzL_nil, frzL_cons, frzAt_eq, fz_own, fz_d, fz_n, fl_int, fl_bool, fl_str, fl_tup, fls_nil, fls_cons, fls_app, fls_ints, tg1, tg2, tx1, tx2, sv_nil, sv_cons, dn_nil, dn_cons, wd_nil, wd_cons, so_list, so_tup, ro_int, ng_int, ap_own, au_int, au_add, au_sub, tv_bool, tv_list, tv_int, Option.bind_some, Option.bind_none, Option.map_some, Option.map_none, Option.getD_some, Option.getD_none, Option.join_some, List.getElem?_cons_zero, List.getElem?_cons_succ, List.set_cons_zero, List.set_cons_succ, List.length_cons, List.length_nil, List.length_map, ite_true, ite_false, if_true, if_false, Bool.and_true, Bool.true_and, Bool.false_eq_true, decide_eq_true_eq, Bool.not_true, Bool.not_false, and_self, and_true, true_and, reduceIte]
def Digs (sizes ds : List Int) : Prop := ds.length = sizes.length ∧ ∀ (i : Nat) (s : Int), sizes[i]? = some s → ∃ d, ds[i]? = some d ∧ 0 ≤ d ∧ d < s
theorem digs_nil : Digs [] [] := ⟨rfl, fun i s h => by simp at h⟩
theorem digs_cons {s d : Int} {ss ds : List Int} (h0 : 0 ≤ d) (h1 : d < s) (h : Digs ss ds) : Digs (s :: ss) (d :: ds) := by
  refine ⟨by rw [List.length_cons, List.length_cons, h.1], fun i t ht => ?_⟩
  cases i with
  | zero =>
    cases ht
    exact ⟨d, rfl, h0, h1⟩
  | succ i => exact h.2 i t ht
theorem dig_loop1 (c L : D) (x5 x6 x7 : Option Sv) : ∀ (ss : List Int), (∀ s ∈ ss, 0 < s ∧ s < 1073741824) → ∀ (out : List Int) (rest : Int) (x4 : Option Sv), out.length + ss.length ≤ 1000 →
    ∃ ds rest' x4', forD (b_digits_0 F4) (.one 4) (ss.map PyData.int) [some (.d c), some (.d L), some (.own (out.map PyData.int)), some (.d (.int rest)), x4, x5, x6, x7] =
      some (.nx [some (.d c), some (.d L), some (.own ((out ++ ds).map PyData.int)), some (.d (.int rest')), x4', x5, x6, x7]) ∧ Digs ss ds
  | [], _, out, rest, x4, _ => ⟨[], rest, x4, by rw [List.append_nil]; rfl, digs_nil⟩
  | s :: ss, hs, out, rest, x4, hl => by
    rw [List.length_cons] at hl
    have h1 := hs s List.mem_cons_self
    obtain ⟨ds, rest', x4', e, hd⟩ := dig_loop1 c L x5 x6 x7 ss (fun z hz => hs z (List.mem_cons_of_mem _ hz)) (out ++ [rest % s]) (rest / s) (some (.d (.int s))) (by rw [List.length_append, List.length_singleton]; omega)
    refine ⟨rest % s :: ds, rest', x4', ?_, digs_cons (Int.emod_nonneg _ (by omega)) (Int.emod_lt_of_pos _ h1.1) hd⟩
    have hlim : out.length < lim := by rw [lim_eq]; omega
    rw [List.map_cons, forD]
    simp only [s_seq, s_nil, then_nx, then_ret, then_brk, then_ct, r_asg, r_asgT, r_aug, r_app, r_ext, r_ins, r_clr, r_item, r_if, r_for, r_forN, fo_list, q_rev, rv_list, r_ret, r_retV, r_retN, r_brk, r_ct, r_drop, q_var, q_c, q_bin, q_neg, q_not, q_and, q_or, q_if, q_nil, q_cons, q_tup, q_lst, q_ix, q_step, step_list, q_ssc, q_opt0, q_opt1, q_sl, q_call, q_isi, q_tB, q_tVal, q_tNot, q_tAnd, q_tOr, q_tYes, q_chain, q_seq, q_range1, v_dict, frzS_nil, frzS_cons, fz1_d, fz1_o, fz1_n, q_join, q_split, q_dec, dec_str, tup_rl, f_str, f_tuple, f_int, out_retS, stv_list, r_newK, it_k, th_k, hd_k, fz_k, fz1_k, list_k, q_inT, q_getT, it_int, it_str, gt_str, any_int, r_star, stv_tup, q_zip, sq_list, sq_tup, q_range2, r2_int, sl_tup, q_inT, q_getT, it_int, it_str, gt_str, any_int, r_star, stv_tup, q_zip, sq_list, sq_tup, q_range2, r2_int, sl_tup, v_list, v_listF, v_int, v_bool, v_str, v_none, v_tup, aft_t, aft_f, mk_no, mk_yes, mk_call, ret_list, ret_no, ret_int, ret_bool, ret_str, ret_none, ret_tup, retSv_own, retSv_d, o_add, o_sub, o_mul, o_fdiv, o_mod, o_pow, o_lt, o_le, o_gt, o_ge, o_eqI, o_neI, o_eqB, o_neB, o_addL, b_bool, x_list, x_tup, at0, at1, at2, at3, at4, at5, at6, at7, at_last, atN, len_l, len_t, len_s, max_r, min_r, list_r, f_len, f_list, f_max, f_min, f_sorted, f_sum, f_any, out_ret, out_retB, out_retL, out_retT, th_d, th_o, th_n, hd_d, hd_o, hd_n, thawS_nil, thawS_cons, hideS_nil, hideS_cons, frzL_nil, frzL_cons, frzAt_eq, fz_own, fz_d, fz_n, fl_int, fl_bool, fl_str, fl_tup, fls_nil, fls_cons, fls_app, fls_ints, tg1, tg2, tx1, tx2, sv_nil, sv_cons, dn_nil, dn_cons, wd_nil, wd_cons, so_list, so_tup, ro_int, ng_int, ap_own, au_int, au_add, au_sub, tv_bool, tv_list, tv_int, Option.bind_some, Option.bind_none, Option.map_some, Option.map_none, Option.getD_some, Option.getD_none, Option.join_some, List.getElem?_cons_zero, List.getElem?_cons_succ, List.set_cons_zero, List.set_cons_succ, List.length_cons, List.length_nil, List.length_map, ite_true, ite_false, if_true, if_false, Bool.and_true, Bool.true_and, Bool.false_eq_true, decide_eq_true_eq, Bool.not_true, Bool.not_false, and_self, and_true, true_and, reduceIte, B_digits_0, if_pos h1, if_pos h1.1, hlim]
    rw [List.map_append, List.map_cons, List.map_nil] at e
    rw [e, List.append_assoc]
    rfl
theorem dig_loop2 (c : D) (sizes : List Int) (hs : ∀ s ∈ sizes, 0 < s ∧ s < 1073741824) (hlen : sizes.length ≤ 900) (x3 x4 : Option Sv) : ∀ (m : Nat) (i : Nat), i + m = sizes.length → ∀ (out : List Int) (one : Int) (x6 x7 : Option Sv), out.length ≤ i → 0 ≤ one → one < 2147483648 →
    ∃ ds one' x6' x7', forD (b_digits_1 F4) (.one 6) ((List.range' i m).map fun i => PyData.int (0 + (i : Nat))) [some (.d c), some (.d (.list (sizes.map PyData.int))), some (.own (out.map PyData.int)), x3, x4, some (.d (.int one)), x6, x7] =
      some (.nx [some (.d c), some (.d (.list (sizes.map PyData.int))), some (.own ((out ++ ds).map PyData.int)), x3, x4, some (.d (.int one')), x6', x7']) ∧ Digs (sizes.drop i) ds
  | 0, i, hi, out, one, x6, x7, _, _, _ => ⟨[], one, x6, x7, by rw [List.append_nil]; rfl, by rw [List.drop_of_length_le (by omega)]; exact digs_nil⟩
  | m + 1, i, hi, out, one, x6, x7, ho, h0, h1 => by
    have hi' : i < sizes.length := by omega
    have hsz := hs sizes[i] (List.getElem_mem hi')
    obtain ⟨one2, e2⟩ : ∃ z, z = (one * 48271 + 10007 * (0 + (i : Int) + 1)) % 2147483629 := ⟨_, rfl⟩
    have b0 : 0 ≤ one2 := by rw [e2]; exact Int.emod_nonneg _ (by decide)
    have b1 : one2 < 2147483629 := by rw [e2]; exact Int.emod_lt_of_pos _ (by decide)
    obtain ⟨two, e3⟩ : ∃ z, z = (one2 * one2 + 69621 * one2 + (0 + (i : Int))) % 2147483563 := ⟨_, rfl⟩
    obtain ⟨dg, e4⟩ : ∃ z, z = two / 11 % sizes[i] := ⟨_, rfl⟩
    obtain ⟨ds, one', x6', x7', e, hd⟩ := dig_loop2 c sizes hs hlen x3 x4 m (i + 1) (by omega) (out ++ [dg]) one2 (some (.d (.int (0 + (i : Int))))) (some (.d (.int two))) (by rw [List.length_append, List.length_singleton]; omega) b0 (by omega)
    refine ⟨dg :: ds, one', x6', x7', ?_, ?_⟩
    · have hlim : out.length < lim := by rw [lim_eq]; omega
      have g1 : (-(2 ^ 64) < one ∧ one < 2 ^ 64) ∨ (-(2 ^ 64) < (48271 : Int) ∧ (48271 : Int) < 2 ^ 64) := .inr (by decide)
      have g2 : (-(2 ^ 64) < (10007 : Int) ∧ (10007 : Int) < 2 ^ 64) ∨ (-(2 ^ 64) < (0 + (i : Int) + 1) ∧ (0 + (i : Int) + 1) < 2 ^ 64) := .inl (by decide)
      have g3 : (-(2 ^ 64) < one2 ∧ one2 < 2 ^ 64) ∨ (-(2 ^ 64) < one2 ∧ one2 < 2 ^ 64) := .inl (by omega)
      have g4 : (-(2 ^ 64) < (69621 : Int) ∧ (69621 : Int) < 2 ^ 64) ∨ (-(2 ^ 64) < one2 ∧ one2 < 2 ^ 64) := .inl (by decide)
      have g5 : (0 : Int) < 2147483629 := by decide
      have g6 : (0 : Int) < 2147483563 := by decide
      have g7 : (0 : Int) < 11 ∧ (11 : Int) < 1073741824 := by decide
      have g8 : atI (sizes.map PyData.int) (0 + (i : Int)) = some (.int sizes[i]) := by
        rw [Int.zero_add, atN, List.getElem?_map, List.getElem?_eq_getElem hi']
        rfl
      rw [List.range'_succ, List.map_cons, forD]
      simp only [s_seq, s_nil, then_nx, then_ret, then_brk, then_ct, r_asg, r_asgT, r_aug, r_app, r_ext, r_ins, r_clr, r_item, r_if, r_for, r_forN, fo_list, q_rev, rv_list, r_ret, r_retV, r_retN, r_brk, r_ct, r_drop, q_var, q_c, q_bin, q_neg, q_not, q_and, q_or, q_if, q_nil, q_cons, q_tup, q_lst, q_ix, q_step, step_list, q_ssc, q_opt0, q_opt1, q_sl, q_call, q_isi, q_tB, q_tVal, q_tNot, q_tAnd, q_tOr, q_tYes, q_chain, q_seq, q_range1, v_dict, frzS_nil, frzS_cons, fz1_d, fz1_o, fz1_n, q_join, q_split, q_dec, dec_str, tup_rl, f_str, f_tuple, f_int, out_retS, stv_list, r_newK, it_k, th_k, hd_k, fz_k, fz1_k, list_k, q_inT, q_getT, it_int, it_str, gt_str, any_int, r_star, stv_tup, q_zip, sq_list, sq_tup, q_range2, r2_int, sl_tup, q_inT, q_getT, it_int, it_str, gt_str, any_int, r_star, stv_tup, q_zip, sq_list, sq_tup, q_range2, r2_int, sl_tup, v_list, v_listF, v_int, v_bool, v_str, v_none, v_tup, aft_t, aft_f, mk_no, mk_yes, mk_call, ret_list, ret_no, ret_int, ret_bool, ret_str, ret_none, ret_tup, retSv_own, retSv_d, o_add, o_sub, o_mul, o_fdiv, o_mod, o_pow, o_lt, o_le, o_gt, o_ge, o_eqI, o_neI, o_eqB, o_neB, o_addL, b_bool, x_list, x_tup, at0, at1, at2, at3, at4, at5, at6, at7, at_last, atN, len_l, len_t, len_s, max_r, min_r, list_r, f_len, f_list, f_max, f_min, f_sorted, f_sum, f_any, out_ret, out_retB, out_retL, out_retT, th_d, th_o, th_n, hd_d, hd_o, hd_n, thawS_nil, thawS_cons, hideS_nil, hideS_cons, frzL_nil, frzL_cons, frzAt_eq, fz_own, fz_d, fz_n, fl_int, fl_bool, fl_str, fl_tup, fls_nil, fls_cons, fls_app, fls_ints, tg1, tg2, tx1, tx2, sv_nil, sv_cons, dn_nil, dn_cons, wd_nil, wd_cons, so_list, so_tup, ro_int, ng_int, ap_own, au_int, au_add, au_sub, tv_bool, tv_list, tv_int, Option.bind_some, Option.bind_none, Option.map_some, Option.map_none, Option.getD_some, Option.getD_none, Option.join_some, List.getElem?_cons_zero, List.getElem?_cons_succ, List.set_cons_zero, List.set_cons_succ, List.length_cons, List.length_nil, List.length_map, ite_true, ite_false, if_true, if_false, Bool.and_true, Bool.true_and, Bool.false_eq_true, decide_eq_true_eq, Bool.not_true, Bool.not_false, and_self, and_true, true_and, reduceIte, B_digits_1, if_pos g1, if_pos g2, if_pos g5, ← e2, if_pos g3, if_pos g4, if_pos g6, ← e3, if_pos g7, g8, if_pos hsz.1, ← e4, hlim]
      rw [List.map_append, List.map_cons, List.map_nil] at e
      rw [e, List.append_assoc]
      rfl
    · rw [List.drop_eq_getElem_cons hi']
      exact digs_cons (by rw [e4]; exact Int.emod_nonneg _ (by omega)) (by rw [e4]; exact Int.emod_lt_of_pos _ hsz.1) hd
theorem r_digits (c : Int) (sizes : List Int) (hs : ∀ s ∈ sizes, 0 < s ∧ s < 1073741824) (hlen : sizes.length ≤ 900) : ∃ ds : List Int, x_digits.run [.int c, .list (sizes.map PyData.int)] = some (.list (ds.map PyData.int)) ∧ Digs sizes ds := by
  have hp : (0 : Int) ≤ 18 ∧ (18 : Int) ≤ 1000000 ∧ (10 : Int).natAbs < 2 ^ 64 := by decide
  have h0 := R_digits (.int c) (.list (sizes.map PyData.int))
  by_cases h : (10 : Int) ^ (18 : Int).toNat ≤ c
  · obtain ⟨ds, rest', x4', e, hd⟩ := dig_loop1 (.int c) (.list (sizes.map PyData.int)) none none none sizes hs [] (c - 10 ^ (18 : Int).toNat) none (by rw [List.length_nil]; omega)
    refine ⟨ds, ?_, hd⟩
    rw [List.map_nil, List.nil_append] at e
    rw [h0]
    simp only [s_seq, s_nil, then_nx, then_ret, then_brk, then_ct, r_asg, r_asgT, r_aug, r_app, r_ext, r_ins, r_clr, r_item, r_if, r_for, r_forN, fo_list, q_rev, rv_list, r_ret, r_retV, r_retN, r_brk, r_ct, r_drop, q_var, q_c, q_bin, q_neg, q_not, q_and, q_or, q_if, q_nil, q_cons, q_tup, q_lst, q_ix, q_step, step_list, q_ssc, q_opt0, q_opt1, q_sl, q_call, q_isi, q_tB, q_tVal, q_tNot, q_tAnd, q_tOr, q_tYes, q_chain, q_seq, q_range1, v_dict, frzS_nil, frzS_cons, fz1_d, fz1_o, fz1_n, q_join, q_split, q_dec, dec_str, tup_rl, f_str, f_tuple, f_int, out_retS, stv_list, r_newK, it_k, th_k, hd_k, fz_k, fz1_k, list_k, q_inT, q_getT, it_int, it_str, gt_str, any_int, r_star, stv_tup, q_zip, sq_list, sq_tup, q_range2, r2_int, sl_tup, q_inT, q_getT, it_int, it_str, gt_str, any_int, r_star, stv_tup, q_zip, sq_list, sq_tup, q_range2, r2_int, sl_tup, v_list, v_listF, v_int, v_bool, v_str, v_none, v_tup, aft_t, aft_f, mk_no, mk_yes, mk_call, ret_list, ret_no, ret_int, ret_bool, ret_str, ret_none, ret_tup, retSv_own, retSv_d, o_add, o_sub, o_mul, o_fdiv, o_mod, o_pow, o_lt, o_le, o_gt, o_ge, o_eqI, o_neI, o_eqB, o_neB, o_addL, b_bool, x_list, x_tup, at0, at1, at2, at3, at4, at5, at6, at7, at_last, atN, len_l, len_t, len_s, max_r, min_r, list_r, f_len, f_list, f_max, f_min, f_sorted, f_sum, f_any, out_ret, out_retB, out_retL, out_retT, th_d, th_o, th_n, hd_d, hd_o, hd_n, thawS_nil, thawS_cons, hideS_nil, hideS_cons, frzL_nil, frzL_cons, frzAt_eq, fz_own, fz_d, fz_n, fl_int, fl_bool, fl_str, fl_tup, fls_nil, fls_cons, fls_app, fls_ints, tg1, tg2, tx1, tx2, sv_nil, sv_cons, dn_nil, dn_cons, wd_nil, wd_cons, so_list, so_tup, ro_int, ng_int, ap_own, au_int, au_add, au_sub, tv_bool, tv_list, tv_int, Option.bind_some, Option.bind_none, Option.map_some, Option.map_none, Option.getD_some, Option.getD_none, Option.join_some, List.getElem?_cons_zero, List.getElem?_cons_succ, List.set_cons_zero, List.set_cons_succ, List.length_cons, List.length_nil, List.length_map, ite_true, ite_false, if_true, if_false, Bool.and_true, Bool.true_and, Bool.false_eq_true, decide_eq_true_eq, Bool.not_true, Bool.not_false, and_self, and_true, true_and, reduceIte, D_digits_0, D_digits_1, D_digits_2, D_digits_3, D_digits_4, D_digits_5, if_pos hp, if_pos h, lim_eq, Nat.zero_le, e]
  · have g0 : (0 : Int) < 2147483647 := by decide
    obtain ⟨ds, one', x6', x7', e, hd⟩ := dig_loop2 (.int c) sizes hs hlen none none sizes.length 0 (by omega) [] (c % 2147483647) none none (Nat.le_refl _) (Int.emod_nonneg _ (by decide)) (by have := Int.emod_lt_of_pos c (show (0 : Int) < 2147483647 by decide); omega)
    refine ⟨ds, ?_, by rw [List.drop_zero] at hd; exact hd⟩
    rw [List.map_nil, List.nil_append] at e
    have hr : rangeD 0 (sizes.length : Int).toNat = (List.range' 0 sizes.length).map fun i => PyData.int (0 + (i : Nat)) := by
      unfold rangeD
      rw [Int.toNat_natCast, List.range_eq_range']
    have hb : ((sizes.length : Nat) : Int) ≤ 1000000000 ∧ -1000000000 ≤ ((sizes.length : Nat) : Int) := by omega
    rw [h0]
    simp only [s_seq, s_nil, then_nx, then_ret, then_brk, then_ct, r_asg, r_asgT, r_aug, r_app, r_ext, r_ins, r_clr, r_item, r_if, r_for, r_forN, fo_list, q_rev, rv_list, r_ret, r_retV, r_retN, r_brk, r_ct, r_drop, q_var, q_c, q_bin, q_neg, q_not, q_and, q_or, q_if, q_nil, q_cons, q_tup, q_lst, q_ix, q_step, step_list, q_ssc, q_opt0, q_opt1, q_sl, q_call, q_isi, q_tB, q_tVal, q_tNot, q_tAnd, q_tOr, q_tYes, q_chain, q_seq, q_range1, v_dict, frzS_nil, frzS_cons, fz1_d, fz1_o, fz1_n, q_join, q_split, q_dec, dec_str, tup_rl, f_str, f_tuple, f_int, out_retS, stv_list, r_newK, it_k, th_k, hd_k, fz_k, fz1_k, list_k, q_inT, q_getT, it_int, it_str, gt_str, any_int, r_star, stv_tup, q_zip, sq_list, sq_tup, q_range2, r2_int, sl_tup, q_inT, q_getT, it_int, it_str, gt_str, any_int, r_star, stv_tup, q_zip, sq_list, sq_tup, q_range2, r2_int, sl_tup, v_list, v_listF, v_int, v_bool, v_str, v_none, v_tup, aft_t, aft_f, mk_no, mk_yes, mk_call, ret_list, ret_no, ret_int, ret_bool, ret_str, ret_none, ret_tup, retSv_own, retSv_d, o_add, o_sub, o_mul, o_fdiv, o_mod, o_pow, o_lt, o_le, o_gt, o_ge, o_eqI, o_neI, o_eqB, o_neB, o_addL, b_bool, x_list, x_tup, at0, at1, at2, at3, at4, at5, at6, at7, at_last, atN, len_l, len_t, len_s, max_r, min_r, list_r, f_len, f_list, f_max, f_min, f_sorted, f_sum, f_any, out_ret, out_retB, out_retL, out_retT, th_d, th_o, th_n, hd_d, hd_o, hd_n, thawS_nil, thawS_cons, hideS_nil, hideS_cons, frzL_nil, frzL_cons, frzAt_eq, fz_own, fz_d, fz_n, fl_int, fl_bool, fl_str, fl_tup, fls_nil, fls_cons, fls_app, fls_ints, tg1, tg2, tx1, tx2, sv_nil, sv_cons, dn_nil, dn_cons, wd_nil, wd_cons, so_list, so_tup, ro_int, ng_int, ap_own, au_int, au_add, au_sub, tv_bool, tv_list, tv_int, Option.bind_some, Option.bind_none, Option.map_some, Option.map_none, Option.getD_some, Option.getD_none, Option.join_some, List.getElem?_cons_zero, List.getElem?_cons_succ, List.set_cons_zero, List.set_cons_succ, List.length_cons, List.length_nil, List.length_map, ite_true, ite_false, if_true, if_false, Bool.and_true, Bool.true_and, Bool.false_eq_true, decide_eq_true_eq, Bool.not_true, Bool.not_false, and_self, and_true, true_and, reduceIte, D_digits_0, D_digits_1, D_digits_2, D_digits_3, D_digits_4, D_digits_5, if_pos hp, if_neg h, lim_eq, Nat.zero_le, if_pos g0, G_digits_len, if_pos hb, hr, e]
theorem digs_inv {s : Int} {ss ds : List Int} (h : Digs (s :: ss) ds) : ∃ d r, ds = d :: r ∧ 0 ≤ d ∧ d < s ∧ Digs ss r := by
  obtain ⟨hl, hb⟩ := h
  cases ds with
  | nil => rw [List.length_cons] at hl; cases hl
  | cons d r =>
    obtain ⟨e, he, h0, h1⟩ := hb 0 s rfl
    cases he
    exact ⟨d, r, rfl, h0, h1, Nat.succ.inj hl, fun i t ht => hb (i + 1) t ht⟩
theorem digs_end {ds : List Int} (h : Digs [] ds) : ds = [] := List.eq_nil_of_length_eq_zero h.1
theorem pos_of {ss : List Int} (h : ss.all (fun s => decide (0 < s ∧ s < 1073741824)) = true) : ∀ s ∈ ss, 0 < s ∧ s < 1073741824 := fun s hs => of_decide_eq_true (List.all_eq_true.mp h s hs)
theorem dig_at (ns : List Int) (k : Int) (hk : 0 ≤ k) (sizes : List Int) (h : sizes.all (fun s => decide (0 < s ∧ s < 1073741824)) = true) (hl : sizes.length ≤ 900) :
    ∃ c ds, x_cell.run [scrD ns, .int k] = some (.int c) ∧ x_digits.run [.int c, .list (sizes.map PyData.int)] = some (.list (ds.map PyData.int)) ∧ Digs sizes ds := by
  obtain ⟨ds, e, hd⟩ := r_digits (cellV ns k) sizes (pos_of h) hl
  exact ⟨_, ds, r_cell ns k hk, e, hd⟩
/-! ### folk, a field's fact -/
theorem lcD_ex {α : Type} {f : D → Option (Option D)} {g : α → D} : ∀ zs : List α, (∀ z ∈ zs, ∃ n : Int, f (g z) = some (some (.int n))) → ∃ ns : List Int, lcD f (zs.map g) = some (ns.map PyData.int) ∧ ns.length = zs.length
  | [], _ => ⟨[], rfl, rfl⟩
  | z :: zs, h => by
    obtain ⟨n, hn⟩ := h z List.mem_cons_self
    obtain ⟨ns, e, hl⟩ := lcD_ex zs fun y hy => h y (List.mem_cons_of_mem _ hy)
    exact ⟨n :: ns, by rw [List.map_cons, lc_cons, hn, e]; rfl, by rw [List.length_cons, List.length_cons, hl]⟩
theorem step_get {p : Int} (h0 : 0 ≤ p) (h1 : p < 5) : ∃ s : Int, atI [PyData.int 1, .int 100, .int 331, .int 500, .int 998] p = some (.int s) := by
  have h : p = 0 ∨ p = 1 ∨ p = 2 ∨ p = 3 ∨ p = 4 := by omega
  rcases h with rfl | rfl | rfl | rfl | rfl
  · exact ⟨1, at0⟩
  · exact ⟨100, at1⟩
  · exact ⟨331, at2⟩
  · exact ⟨500, at3⟩
  · exact ⟨998, at4⟩
def folkE : Den := eBin .add (eC (.int 1)) (eBin .mod (eBin .add (eVar 0) (eBin .mul (eVar 3) (eIx (eTup (aCons (eC (.int 1)) (aCons (eC (.int 100)) (aCons (eC (.int 331)) (aCons (eC (.int 500)) (aCons (eC (.int 998)) aNil)))))) (eVar 1)))) (eC (.int 999)))
theorem folk_val (start p i s : Int) (x : Option D) (hs : atI [PyData.int 1, .int 100, .int 331, .int 500, .int 998] p = some (.int s)) (hi : -1000 < i ∧ i < 1000) : folkE F7 [some (.int start), some (.int p), x, some (.int i)] = some (.int (1 + (start + i * s) % 999)) := by
  have l5 : (5 : Nat) ≤ lim := by rw [lim_eq]; omega
  have p999 : (0 : Int) < 999 := by decide
  have hm : (-(2 ^ 64) < i ∧ i < 2 ^ 64) ∨ (-(2 ^ 64) < s ∧ s < 2 ^ 64) := .inl (by omega)
  unfold folkE
  simp only [s_seq, s_nil, then_nx, then_ret, then_brk, then_ct, r_asg, r_asgT, r_aug, r_app, r_ext, r_ins, r_clr, r_item, r_if, r_for, r_forN, fo_list, q_rev, rv_list, r_ret, r_retV, r_retN, r_brk, r_ct, r_drop, q_var, q_c, q_bin, q_neg, q_not, q_and, q_or, q_if, q_nil, q_cons, q_tup, q_lst, q_ix, q_step, step_list, q_ssc, q_opt0, q_opt1, q_sl, q_call, q_isi, q_tB, q_tVal, q_tNot, q_tAnd, q_tOr, q_tYes, q_chain, q_seq, q_range1, v_dict, frzS_nil, frzS_cons, fz1_d, fz1_o, fz1_n, q_join, q_split, q_dec, dec_str, tup_rl, f_str, f_tuple, f_int, out_retS, stv_list, r_newK, it_k, th_k, hd_k, fz_k, fz1_k, list_k, q_inT, q_getT, it_int, it_str, gt_str, any_int, r_star, stv_tup, q_zip, sq_list, sq_tup, q_range2, r2_int, sl_tup, q_inT, q_getT, it_int, it_str, gt_str, any_int, r_star, stv_tup, q_zip, sq_list, sq_tup, q_range2, r2_int, sl_tup, v_list, v_listF, v_int, v_bool, v_str, v_none, v_tup, aft_t, aft_f, mk_no, mk_yes, mk_call, ret_list, ret_no, ret_int, ret_bool, ret_str, ret_none, ret_tup, retSv_own, retSv_d, o_add, o_sub, o_mul, o_fdiv, o_mod, o_pow, o_lt, o_le, o_gt, o_ge, o_eqI, o_neI, o_eqB, o_neB, o_addL, b_bool, x_list, x_tup, at0, at1, at2, at3, at4, at5, at6, at7, at_last, atN, len_l, len_t, len_s, max_r, min_r, list_r, f_len, f_list, f_max, f_min, f_sorted, f_sum, f_any, out_ret, out_retB, out_retL, out_retT, th_d, th_o, th_n, hd_d, hd_o, hd_n, thawS_nil, thawS_cons, hideS_nil, hideS_cons, frzL_nil, frzL_cons, frzAt_eq, fz_own, fz_d, fz_n, fl_int, fl_bool, fl_str, fl_tup, fls_nil, fls_cons, fls_app, fls_ints, tg1, tg2, tx1, tx2, sv_nil, sv_cons, dn_nil, dn_cons, wd_nil, wd_cons, so_list, so_tup, ro_int, ng_int, ap_own, au_int, au_add, au_sub, tv_bool, tv_list, tv_int, Option.bind_some, Option.bind_none, Option.map_some, Option.map_none, Option.getD_some, Option.getD_none, Option.join_some, List.getElem?_cons_zero, List.getElem?_cons_succ, List.set_cons_zero, List.set_cons_succ, List.length_cons, List.length_nil, List.length_map, ite_true, ite_false, if_true, if_false, Bool.and_true, Bool.true_and, Bool.false_eq_true, decide_eq_true_eq, Bool.not_true, Bool.not_false, and_self, and_true, true_and, reduceIte, hs, l5, hm, p999]
theorem folk_turn (start p many i s : Int) (hs : atI [PyData.int 1, .int 100, .int 331, .int 500, .int 998] p = some (.int s)) (hi : -1000 < i ∧ i < 1000) : lcTurn (.one 3) [3] tYes' folkE F7 [some (.int start), some (.int p), some (.int many), none] (.int i) = some (some (.int (1 + (start + i * s) % 999))) := by
  rw [q_turn, tg1, Option.bind_some, q_tYes, Option.bind_some, if_pos rfl]
  have e : setDs (wipeD [some (.int start), some (.int p), some (.int many), none] [3]) (Tgt.one 3).ix [.int i] = [some (.int start), some (.int p), some (.int many), some (.int i)] := rfl
  rw [e, folk_val start p i s _ hs hi]
  rfl
theorem r_folk (start p many : Int) (h0 : 0 ≤ p) (h1 : p < 5) (m0 : 0 ≤ many) (m1 : many ≤ 100) : ∃ fl : List Int, x_folk.run [.int start, .int p, .int many] = some (.list (fl.map PyData.int)) ∧ fl.length = many.toNat := by
  obtain ⟨s, hs⟩ := step_get h0 h1
  have hr : many ≤ 1000000000 ∧ -1000000000 ≤ many := by omega
  obtain ⟨ns, e, hl⟩ := lcD_ex (f := lcTurn (.one 3) [3] tYes' folkE F7 [some (.int start), some (.int p), some (.int many), none]) (g := fun i : Nat => PyData.int (0 + (i : Nat))) (List.range' 0 many.toNat) fun i hi => by
    have hb : i < many.toNat := by have := List.mem_range'_1.mp hi; omega
    exact ⟨_, folk_turn start p many (0 + (i : Int)) s hs (by omega)⟩
  rw [List.length_range'] at hl
  have hlen : ((List.range' 0 many.toNat).map fun i : Nat => PyData.int (0 + (i : Nat))).length ≤ lim := by rw [List.length_map, List.length_range', lim_eq]; omega
  refine ⟨ns, ?_, hl⟩
  have h2 : iRange1 (eVar 2) F7 [some (.int start), some (.int p), some (.int many), none] = some ((List.range' 0 many.toNat).map fun i : Nat => PyData.int (0 + (i : Nat))) := by
    rw [q_range1, q_var]
    simp only [List.getElem?_cons_succ, List.getElem?_cons_zero, Option.join_some, Option.bind_some]
    rw [ro_int, if_pos hr, range_from]
  have hit : eLc [3] (.one 3) (iRange1 (eVar 2)) tYes' folkE F7 [some (.int start), some (.int p), some (.int many), none] = some (.list (ns.map PyData.int)) := by
    rw [q_lc, h2, Option.bind_some, if_pos hlen, e, Option.map_some]
  unfold folkE at hit
  have ht : thawS [some (Sv.d (.int start)), some (.d (.int p)), some (.d (.int many)), none] = [some (.int start), some (.int p), some (.int many), none] := rfl
  rw [R_folk, D_folk_0, s_seq, r_ret, ht, hit]
  simp only [s_seq, s_nil, then_nx, then_ret, then_brk, then_ct, r_asg, r_asgT, r_aug, r_app, r_ext, r_ins, r_clr, r_item, r_if, r_for, r_forN, fo_list, q_rev, rv_list, r_ret, r_retV, r_retN, r_brk, r_ct, r_drop, q_var, q_c, q_bin, q_neg, q_not, q_and, q_or, q_if, q_nil, q_cons, q_tup, q_lst, q_ix, q_step, step_list, q_ssc, q_opt0, q_opt1, q_sl, q_call, q_isi, q_tB, q_tVal, q_tNot, q_tAnd, q_tOr, q_tYes, q_chain, q_seq, q_range1, v_dict, frzS_nil, frzS_cons, fz1_d, fz1_o, fz1_n, q_join, q_split, q_dec, dec_str, tup_rl, f_str, f_tuple, f_int, out_retS, stv_list, r_newK, it_k, th_k, hd_k, fz_k, fz1_k, list_k, q_inT, q_getT, it_int, it_str, gt_str, any_int, r_star, stv_tup, q_zip, sq_list, sq_tup, q_range2, r2_int, sl_tup, q_inT, q_getT, it_int, it_str, gt_str, any_int, r_star, stv_tup, q_zip, sq_list, sq_tup, q_range2, r2_int, sl_tup, v_list, v_listF, v_int, v_bool, v_str, v_none, v_tup, aft_t, aft_f, mk_no, mk_yes, mk_call, ret_list, ret_no, ret_int, ret_bool, ret_str, ret_none, ret_tup, retSv_own, retSv_d, o_add, o_sub, o_mul, o_fdiv, o_mod, o_pow, o_lt, o_le, o_gt, o_ge, o_eqI, o_neI, o_eqB, o_neB, o_addL, b_bool, x_list, x_tup, at0, at1, at2, at3, at4, at5, at6, at7, at_last, atN, len_l, len_t, len_s, max_r, min_r, list_r, f_len, f_list, f_max, f_min, f_sorted, f_sum, f_any, out_ret, out_retB, out_retL, out_retT, th_d, th_o, th_n, hd_d, hd_o, hd_n, thawS_nil, thawS_cons, hideS_nil, hideS_cons, frzL_nil, frzL_cons, frzAt_eq, fz_own, fz_d, fz_n, fl_int, fl_bool, fl_str, fl_tup, fls_nil, fls_cons, fls_app, fls_ints, tg1, tg2, tx1, tx2, sv_nil, sv_cons, dn_nil, dn_cons, wd_nil, wd_cons, so_list, so_tup, ro_int, ng_int, ap_own, au_int, au_add, au_sub, tv_bool, tv_list, tv_int, Option.bind_some, Option.bind_none, Option.map_some, Option.map_none, Option.getD_some, Option.getD_none, Option.join_some, List.getElem?_cons_zero, List.getElem?_cons_succ, List.set_cons_zero, List.set_cons_succ, List.length_cons, List.length_nil, List.length_map, ite_true, ite_false, if_true, if_false, Bool.and_true, Bool.true_and, Bool.false_eq_true, decide_eq_true_eq, Bool.not_true, Bool.not_false, and_self, and_true, true_and, reduceIte]
structure Ft where
  day : Int
  w : Str
  a : Int
  r : List Int
def tD (f : Ft) : D := .tuple (.int f.day :: .str f.w :: .int f.a :: f.r.map PyData.int)
structure FtOk (f : Ft) : Prop where
  d0 : 0 ≤ f.day
  d9 : f.day ≤ 9999
  ok : PyData.strOk f.w = true
  rl : f.r.length ≤ 2
  bar : f.w = "bar" → ∃ u, f.r = [u] ∧ f.day < u ∧ u ≤ 10000 ∧ u ≤ f.day + 1000
theorem get_int {ns : List Int} {i : Int} (h0 : 0 ≤ i) (h1 : i < ns.length) : ∃ n, n ∈ ns ∧ atI (ns.map PyData.int) i = some (.int n) := by
  obtain ⟨m, rfl⟩ : ∃ m : Nat, i = (m : Int) := ⟨i.toNat, by omega⟩
  have hm : m < ns.length := by omega
  exact ⟨ns[m], List.getElem_mem hm, by rw [atN, List.getElem?_map, List.getElem?_eq_getElem hm]; rfl⟩
def fw14 : List D := [.str "enter", .str "hand", .str "grant", .str "sue", .str "win", .str "enter", .str "yes", .str "leave", .str "grant", .str "fall", .str "hand", .str "enter", .str "win", .str "sue"]
theorem fact_run (c field base wide : Int) (folk : List Int) (w : Str) (bg bi : Bool) (d0 d1 d2 d3 : Int) (ed : x_digits.run [.int c, .list [.int 14, .int 977, .int 97, .int 97]] = some (.list [.int d0, .int d1, .int d2, .int d3])) (hw : atI fw14 d0 = some (.str w))
    (b2 : opD .eq (.str w) (.str "grant") = some (.bool bg)) (b4 : opD .isin (.str w) (.tuple [.str "enter", .str "hand", .str "sue"]) = some (.bool bi)) (hf : 2 ≤ folk.length) (hfl : folk.length ≤ 100) (hwide : 0 < wide) (a2 : 0 ≤ d2) (a3 : 0 ≤ d3) :
    ∃ r, x_fact.run [.int c, .int field, .list (folk.map PyData.int), .int base, .int wide] = some (tD ⟨base + d1 % wide, w, field, r⟩) ∧ r.length ≤ 2 := by
  have l4 : (4 : Nat) ≤ lim := by rw [lim_eq]; omega
  have l8 : (8 : Nat) ≤ lim := by rw [lim_eq]; omega
  have l6 : (6 : Nat) ≤ lim := by rw [lim_eq]; omega
  have l86 : (8 : Nat) + 6 ≤ lim := by rw [lim_eq]; omega
  have l5 : (5 : Nat) ≤ lim := by rw [lim_eq]; omega
  have l3 : (3 : Nat) ≤ lim := by rw [lim_eq]; omega
  have pf : (0 : Int) < folk.length := by omega
  have pf1 : (0 : Int) < (folk.length : Int) - 1 := by omega
  obtain ⟨n1, _, e1⟩ := get_int (ns := folk) (i := d2 % (folk.length : Int)) (Int.emod_nonneg _ (by omega)) (Int.emod_lt_of_pos _ (by omega))
  obtain ⟨n2, _, e2⟩ := get_int (ns := folk) (i := (d2 + 1 + d3 % ((folk.length : Int) - 1)) % (folk.length : Int)) (Int.emod_nonneg _ (by omega)) (Int.emod_lt_of_pos _ (by omega))
  unfold fw14 at hw
  cases bg with
  | true =>
    refine ⟨[n1, n2], ?_, by simp⟩
    rw [R_fact]
    unfold tD
    simp only [s_seq, s_nil, then_nx, then_ret, then_brk, then_ct, r_asg, r_asgT, r_aug, r_app, r_ext, r_ins, r_clr, r_item, r_if, r_for, r_forN, fo_list, q_rev, rv_list, r_ret, r_retV, r_retN, r_brk, r_ct, r_drop, q_var, q_c, q_bin, q_neg, q_not, q_and, q_or, q_if, q_nil, q_cons, q_tup, q_lst, q_ix, q_step, step_list, q_ssc, q_opt0, q_opt1, q_sl, q_call, q_isi, q_tB, q_tVal, q_tNot, q_tAnd, q_tOr, q_tYes, q_chain, q_seq, q_range1, v_dict, frzS_nil, frzS_cons, fz1_d, fz1_o, fz1_n, q_join, q_split, q_dec, dec_str, tup_rl, f_str, f_tuple, f_int, out_retS, stv_list, r_newK, it_k, th_k, hd_k, fz_k, fz1_k, list_k, q_inT, q_getT, it_int, it_str, gt_str, any_int, r_star, stv_tup, q_zip, sq_list, sq_tup, q_range2, r2_int, sl_tup, q_inT, q_getT, it_int, it_str, gt_str, any_int, r_star, stv_tup, q_zip, sq_list, sq_tup, q_range2, r2_int, sl_tup, v_list, v_listF, v_int, v_bool, v_str, v_none, v_tup, aft_t, aft_f, mk_no, mk_yes, mk_call, ret_list, ret_no, ret_int, ret_bool, ret_str, ret_none, ret_tup, retSv_own, retSv_d, o_add, o_sub, o_mul, o_fdiv, o_mod, o_pow, o_lt, o_le, o_gt, o_ge, o_eqI, o_neI, o_eqB, o_neB, o_addL, b_bool, x_list, x_tup, at0, at1, at2, at3, at4, at5, at6, at7, at_last, atN, len_l, len_t, len_s, max_r, min_r, list_r, f_len, f_list, f_max, f_min, f_sorted, f_sum, f_any, out_ret, out_retB, out_retL, out_retT, th_d, th_o, th_n, hd_d, hd_o, hd_n, thawS_nil, thawS_cons, hideS_nil, hideS_cons, frzL_nil, frzL_cons, frzAt_eq, fz_own, fz_d, fz_n, fl_int, fl_bool, fl_str, fl_tup, fls_nil, fls_cons, fls_app, fls_ints, tg1, tg2, tx1, tx2, sv_nil, sv_cons, dn_nil, dn_cons, wd_nil, wd_cons, so_list, so_tup, ro_int, ng_int, ap_own, au_int, au_add, au_sub, tv_bool, tv_list, tv_int, Option.bind_some, Option.bind_none, Option.map_some, Option.map_none, Option.getD_some, Option.getD_none, Option.join_some, List.getElem?_cons_zero, List.getElem?_cons_succ, List.set_cons_zero, List.set_cons_succ, List.length_cons, List.length_nil, List.length_map, ite_true, ite_false, if_true, if_false, Bool.and_true, Bool.true_and, Bool.false_eq_true, decide_eq_true_eq, Bool.not_true, Bool.not_false, and_self, and_true, true_and, reduceIte, D_fact_0, D_fact_1, D_fact_2, D_fact_3, D_fact_4, D_fact_5, D_fact_6, D_fact_7, D_fact_8, D_fact_9, G_fact_digits, ed, fr_digits, l4, l8, l6, l86, List.cons_append, List.nil_append, hw, hwide, G_fact_len, pf, pf1, e1, e2, b2, l5, List.map_cons, List.map_nil]
  | false =>
    cases bi with
    | true =>
      refine ⟨[n1], ?_, by simp⟩
      rw [R_fact]
      unfold tD
      simp only [s_seq, s_nil, then_nx, then_ret, then_brk, then_ct, r_asg, r_asgT, r_aug, r_app, r_ext, r_ins, r_clr, r_item, r_if, r_for, r_forN, fo_list, q_rev, rv_list, r_ret, r_retV, r_retN, r_brk, r_ct, r_drop, q_var, q_c, q_bin, q_neg, q_not, q_and, q_or, q_if, q_nil, q_cons, q_tup, q_lst, q_ix, q_step, step_list, q_ssc, q_opt0, q_opt1, q_sl, q_call, q_isi, q_tB, q_tVal, q_tNot, q_tAnd, q_tOr, q_tYes, q_chain, q_seq, q_range1, v_dict, frzS_nil, frzS_cons, fz1_d, fz1_o, fz1_n, q_join, q_split, q_dec, dec_str, tup_rl, f_str, f_tuple, f_int, out_retS, stv_list, r_newK, it_k, th_k, hd_k, fz_k, fz1_k, list_k, q_inT, q_getT, it_int, it_str, gt_str, any_int, r_star, stv_tup, q_zip, sq_list, sq_tup, q_range2, r2_int, sl_tup, q_inT, q_getT, it_int, it_str, gt_str, any_int, r_star, stv_tup, q_zip, sq_list, sq_tup, q_range2, r2_int, sl_tup, v_list, v_listF, v_int, v_bool, v_str, v_none, v_tup, aft_t, aft_f, mk_no, mk_yes, mk_call, ret_list, ret_no, ret_int, ret_bool, ret_str, ret_none, ret_tup, retSv_own, retSv_d, o_add, o_sub, o_mul, o_fdiv, o_mod, o_pow, o_lt, o_le, o_gt, o_ge, o_eqI, o_neI, o_eqB, o_neB, o_addL, b_bool, x_list, x_tup, at0, at1, at2, at3, at4, at5, at6, at7, at_last, atN, len_l, len_t, len_s, max_r, min_r, list_r, f_len, f_list, f_max, f_min, f_sorted, f_sum, f_any, out_ret, out_retB, out_retL, out_retT, th_d, th_o, th_n, hd_d, hd_o, hd_n, thawS_nil, thawS_cons, hideS_nil, hideS_cons, frzL_nil, frzL_cons, frzAt_eq, fz_own, fz_d, fz_n, fl_int, fl_bool, fl_str, fl_tup, fls_nil, fls_cons, fls_app, fls_ints, tg1, tg2, tx1, tx2, sv_nil, sv_cons, dn_nil, dn_cons, wd_nil, wd_cons, so_list, so_tup, ro_int, ng_int, ap_own, au_int, au_add, au_sub, tv_bool, tv_list, tv_int, Option.bind_some, Option.bind_none, Option.map_some, Option.map_none, Option.getD_some, Option.getD_none, Option.join_some, List.getElem?_cons_zero, List.getElem?_cons_succ, List.set_cons_zero, List.set_cons_succ, List.length_cons, List.length_nil, List.length_map, ite_true, ite_false, if_true, if_false, Bool.and_true, Bool.true_and, Bool.false_eq_true, decide_eq_true_eq, Bool.not_true, Bool.not_false, and_self, and_true, true_and, reduceIte, D_fact_0, D_fact_1, D_fact_2, D_fact_3, D_fact_4, D_fact_5, D_fact_6, D_fact_7, D_fact_8, D_fact_9, G_fact_digits, ed, fr_digits, l4, l8, l6, l86, List.cons_append, List.nil_append, hw, hwide, G_fact_len, pf, e1, b2, b4, l4, l3, List.map_cons, List.map_nil]
    | false =>
      refine ⟨[], ?_, by simp⟩
      rw [R_fact]
      unfold tD
      simp only [s_seq, s_nil, then_nx, then_ret, then_brk, then_ct, r_asg, r_asgT, r_aug, r_app, r_ext, r_ins, r_clr, r_item, r_if, r_for, r_forN, fo_list, q_rev, rv_list, r_ret, r_retV, r_retN, r_brk, r_ct, r_drop, q_var, q_c, q_bin, q_neg, q_not, q_and, q_or, q_if, q_nil, q_cons, q_tup, q_lst, q_ix, q_step, step_list, q_ssc, q_opt0, q_opt1, q_sl, q_call, q_isi, q_tB, q_tVal, q_tNot, q_tAnd, q_tOr, q_tYes, q_chain, q_seq, q_range1, v_dict, frzS_nil, frzS_cons, fz1_d, fz1_o, fz1_n, q_join, q_split, q_dec, dec_str, tup_rl, f_str, f_tuple, f_int, out_retS, stv_list, r_newK, it_k, th_k, hd_k, fz_k, fz1_k, list_k, q_inT, q_getT, it_int, it_str, gt_str, any_int, r_star, stv_tup, q_zip, sq_list, sq_tup, q_range2, r2_int, sl_tup, q_inT, q_getT, it_int, it_str, gt_str, any_int, r_star, stv_tup, q_zip, sq_list, sq_tup, q_range2, r2_int, sl_tup, v_list, v_listF, v_int, v_bool, v_str, v_none, v_tup, aft_t, aft_f, mk_no, mk_yes, mk_call, ret_list, ret_no, ret_int, ret_bool, ret_str, ret_none, ret_tup, retSv_own, retSv_d, o_add, o_sub, o_mul, o_fdiv, o_mod, o_pow, o_lt, o_le, o_gt, o_ge, o_eqI, o_neI, o_eqB, o_neB, o_addL, b_bool, x_list, x_tup, at0, at1, at2, at3, at4, at5, at6, at7, at_last, atN, len_l, len_t, len_s, max_r, min_r, list_r, f_len, f_list, f_max, f_min, f_sorted, f_sum, f_any, out_ret, out_retB, out_retL, out_retT, th_d, th_o, th_n, hd_d, hd_o, hd_n, thawS_nil, thawS_cons, hideS_nil, hideS_cons, frzL_nil, frzL_cons, frzAt_eq, fz_own, fz_d, fz_n, fl_int, fl_bool, fl_str, fl_tup, fls_nil, fls_cons, fls_app, fls_ints, tg1, tg2, tx1, tx2, sv_nil, sv_cons, dn_nil, dn_cons, wd_nil, wd_cons, so_list, so_tup, ro_int, ng_int, ap_own, au_int, au_add, au_sub, tv_bool, tv_list, tv_int, Option.bind_some, Option.bind_none, Option.map_some, Option.map_none, Option.getD_some, Option.getD_none, Option.join_some, List.getElem?_cons_zero, List.getElem?_cons_succ, List.set_cons_zero, List.set_cons_succ, List.length_cons, List.length_nil, List.length_map, ite_true, ite_false, if_true, if_false, Bool.and_true, Bool.true_and, Bool.false_eq_true, decide_eq_true_eq, Bool.not_true, Bool.not_false, and_self, and_true, true_and, reduceIte, D_fact_0, D_fact_1, D_fact_2, D_fact_3, D_fact_4, D_fact_5, D_fact_6, D_fact_7, D_fact_8, D_fact_9, G_fact_digits, ed, fr_digits, l4, l8, l6, l86, List.cons_append, List.nil_append, hw, hwide, G_fact_len, pf, e1, b2, b4, l3, List.map_nil]
theorem r_fact (c field base wide : Int) (folk : List Int) (hf : 2 ≤ folk.length) (hfl : folk.length ≤ 100) (hwide : 0 < wide) : ∃ (q : Int) (w : Str) (r : List Int), x_fact.run [.int c, .int field, .list (folk.map PyData.int), .int base, .int wide] = some (tD ⟨base + q, w, field, r⟩) ∧ 0 ≤ q ∧ q < wide ∧ r.length ≤ 2 ∧ PyData.strOk w = true ∧ w ≠ "bar" := by
  obtain ⟨ds, ed, hds⟩ := r_digits c [14, 977, 97, 97] (pos_of (by decide)) (by decide)
  obtain ⟨d0, r0, rfl, a0, c0, hds⟩ := digs_inv hds
  obtain ⟨d1, r1, rfl, a1, c1, hds⟩ := digs_inv hds
  obtain ⟨d2, r2, rfl, a2, c2, hds⟩ := digs_inv hds
  obtain ⟨d3, r3, rfl, a3, c3, hds⟩ := digs_inv hds
  have e6 := digs_end hds
  subst e6
  simp only [List.map_cons, List.map_nil] at ed
  have q0 : 0 ≤ d1 % wide := Int.emod_nonneg _ (by omega)
  have q1 : d1 % wide < wide := Int.emod_lt_of_pos _ hwide
  have hrun := fun w bg bi hw b2 b4 => fact_run c field base wide folk w bg bi d0 d1 d2 d3 ed hw b2 b4 hf hfl hwide a2 a3
  have hd0 : d0 = 0 ∨ d0 = 1 ∨ d0 = 2 ∨ d0 = 3 ∨ d0 = 4 ∨ d0 = 5 ∨ d0 = 6 ∨ d0 = 7 ∨ d0 = 8 ∨ d0 = 9 ∨ d0 = 10 ∨ d0 = 11 ∨ d0 = 12 ∨ d0 = 13 := by omega
  rcases hd0 with rfl | rfl | rfl | rfl | rfl | rfl | rfl | rfl | rfl | rfl | rfl | rfl | rfl | rfl
  · obtain ⟨r, e, hl⟩ := hrun "enter" false true (atN (n := 0)) (by kernel_rfl) (by kernel_rfl)
    exact ⟨_, _, r, e, q0, q1, hl, by decide +kernel, by decide +kernel⟩
  · obtain ⟨r, e, hl⟩ := hrun "hand" false true (atN (n := 1)) (by kernel_rfl) (by kernel_rfl)
    exact ⟨_, _, r, e, q0, q1, hl, by decide +kernel, by decide +kernel⟩
  · obtain ⟨r, e, hl⟩ := hrun "grant" true false (atN (n := 2)) (by kernel_rfl) (by kernel_rfl)
    exact ⟨_, _, r, e, q0, q1, hl, by decide +kernel, by decide +kernel⟩
  · obtain ⟨r, e, hl⟩ := hrun "sue" false true (atN (n := 3)) (by kernel_rfl) (by kernel_rfl)
    exact ⟨_, _, r, e, q0, q1, hl, by decide +kernel, by decide +kernel⟩
  · obtain ⟨r, e, hl⟩ := hrun "win" false false (atN (n := 4)) (by kernel_rfl) (by kernel_rfl)
    exact ⟨_, _, r, e, q0, q1, hl, by decide +kernel, by decide +kernel⟩
  · obtain ⟨r, e, hl⟩ := hrun "enter" false true (atN (n := 5)) (by kernel_rfl) (by kernel_rfl)
    exact ⟨_, _, r, e, q0, q1, hl, by decide +kernel, by decide +kernel⟩
  · obtain ⟨r, e, hl⟩ := hrun "yes" false false (atN (n := 6)) (by kernel_rfl) (by kernel_rfl)
    exact ⟨_, _, r, e, q0, q1, hl, by decide +kernel, by decide +kernel⟩
  · obtain ⟨r, e, hl⟩ := hrun "leave" false false (atN (n := 7)) (by kernel_rfl) (by kernel_rfl)
    exact ⟨_, _, r, e, q0, q1, hl, by decide +kernel, by decide +kernel⟩
  · obtain ⟨r, e, hl⟩ := hrun "grant" true false (atN (n := 8)) (by kernel_rfl) (by kernel_rfl)
    exact ⟨_, _, r, e, q0, q1, hl, by decide +kernel, by decide +kernel⟩
  · obtain ⟨r, e, hl⟩ := hrun "fall" false false (atN (n := 9)) (by kernel_rfl) (by kernel_rfl)
    exact ⟨_, _, r, e, q0, q1, hl, by decide +kernel, by decide +kernel⟩
  · obtain ⟨r, e, hl⟩ := hrun "hand" false true (atN (n := 10)) (by kernel_rfl) (by kernel_rfl)
    exact ⟨_, _, r, e, q0, q1, hl, by decide +kernel, by decide +kernel⟩
  · obtain ⟨r, e, hl⟩ := hrun "enter" false true (atN (n := 11)) (by kernel_rfl) (by kernel_rfl)
    exact ⟨_, _, r, e, q0, q1, hl, by decide +kernel, by decide +kernel⟩
  · obtain ⟨r, e, hl⟩ := hrun "win" false false (atN (n := 12)) (by kernel_rfl) (by kernel_rfl)
    exact ⟨_, _, r, e, q0, q1, hl, by decide +kernel, by decide +kernel⟩
  · obtain ⟨r, e, hl⟩ := hrun "sue" false true (atN (n := 13)) (by kernel_rfl) (by kernel_rfl)
    exact ⟨_, _, r, e, q0, q1, hl, by decide +kernel, by decide +kernel⟩
theorem tD_flat (f : Ft) : flat (tD f) = true := by
  unfold tD
  rw [fl_tup, fls_cons, fls_cons, fls_cons, fls_ints]
  rfl
theorem ok_barW : PyData.strOk "bar" = true := by decide +kernel
theorem ok_walkW : PyData.strOk "walk" = true := by decide +kernel
theorem walk_bar : ("walk" : Str) ≠ "bar" := by decide +kernel
theorem few_turn (ns : List Int) (start many k base wide : Int) (folk fields : List Int) (out : List D) (x9 x10 x11 x12 x13 : Option Sv) (hs : 0 ≤ start + k) (f2 : 2 ≤ folk.length) (f1 : folk.length ≤ 100) (g2 : 2 ≤ fields.length) (g1 : fields.length ≤ 100) (b0 : 0 ≤ base) (w0 : 0 < wide) (bw : base + wide ≤ 10000) (w1 : wide ≤ 1000) (hl : out.length < lim) :
    ∃ f y9 y10 y11 y12 y13, FtOk f ∧ b_few_0 F9 [some (.d (scrD ns)), some (.d (.int start)), some (.d (.int many)), some (.d (.list (folk.map PyData.int))), some (.d (.list (fields.map PyData.int))), some (.d (.int base)), some (.d (.int wide)), some (.own out), some (.d (.int k)), x9, x10, x11, x12, x13] =
      some (.nx [some (.d (scrD ns)), some (.d (.int start)), some (.d (.int many)), some (.d (.list (folk.map PyData.int))), some (.d (.list (fields.map PyData.int))), some (.d (.int base)), some (.d (.int wide)), some (.own (out ++ [tD f])), some (.d (.int k)), y9, y10, y11, y12, y13]) := by
  obtain ⟨ds, ed, hds⟩ := r_digits (cellV ns (start + k)) [14, 977, 97, 97, 5, 97, 97, 60] (pos_of (by decide)) (by decide)
  obtain ⟨d0, r0, rfl, a0, c0, hds⟩ := digs_inv hds
  obtain ⟨d1, r1, rfl, a1, c1, hds⟩ := digs_inv hds
  obtain ⟨d2, r2, rfl, a2, c2, hds⟩ := digs_inv hds
  obtain ⟨d3, r3, rfl, a3, c3, hds⟩ := digs_inv hds
  obtain ⟨d4, r4, rfl, a4, c4, hds⟩ := digs_inv hds
  obtain ⟨d5, r5, rfl, a5, c5, hds⟩ := digs_inv hds
  obtain ⟨d6, r6, rfl, a6, c6, hds⟩ := digs_inv hds
  obtain ⟨d7, r7, rfl, a7, c7, hds⟩ := digs_inv hds
  have e6 := digs_end hds
  subst e6
  simp only [List.map_cons, List.map_nil] at ed
  have ec := r_cell ns (start + k) hs
  have l8 : (8 : Nat) ≤ lim := by rw [lim_eq]; omega
  have l4 : (4 : Nat) ≤ lim := by rw [lim_eq]; omega
  have pf : (0 : Int) < folk.length := by omega
  have pg : (0 : Int) < fields.length := by omega
  have pg1 : (0 : Int) < (fields.length : Int) - 1 := by omega
  have pgt : (1 : Int) < fields.length := by omega
  obtain ⟨n1, _, e1⟩ := get_int (ns := fields) (i := d5 % (fields.length : Int)) (Int.emod_nonneg _ (by omega)) (Int.emod_lt_of_pos _ (by omega))
  obtain ⟨n2, _, e2⟩ := get_int (ns := folk) (i := d6 % (folk.length : Int)) (Int.emod_nonneg _ (by omega)) (Int.emod_lt_of_pos _ (by omega))
  obtain ⟨n3, _, e3⟩ := get_int (ns := fields) (i := (d5 + 1 + d6 % ((fields.length : Int) - 1)) % (fields.length : Int)) (Int.emod_nonneg _ (by omega)) (Int.emod_lt_of_pos _ (by omega))
  obtain ⟨q, w, r, ef, q0, q1, hr, hw, hb⟩ := r_fact (cellV ns (start + k)) n1 base wide folk f2 f1 w0
  have ff := tD_flat ⟨base + q, w, n1, r⟩
  have hd3 : (0 : Int) < 3 ∧ (3 : Int) < 1073741824 := by decide
  have hw3 : 0 ≤ wide / 3 := by omega
  have hm3 : 0 < 1 + wide / 3 := by omega
  have m0 : 0 ≤ d7 % (1 + wide / 3) := Int.emod_nonneg _ (by omega)
  have m1 : d7 % (1 + wide / 3) < 1 + wide / 3 := Int.emod_lt_of_pos _ hm3
  have i0 : ixD (tD ⟨base + q, w, n1, r⟩) (.int 0) = some (.int (base + q)) := at0
  by_cases h0 : d4 = 0
  · refine ⟨⟨base + q, "bar", n2, [min 10000 (base + q + 1 + d7 % (1 + wide / 3))]⟩, (some (.own [.int d0, .int d1, .int d2, .int d3, .int d4, .int d5, .int d6, .int d7])), some (.d (.int n1)), some (.d (tD ⟨base + q, "bar", n2, [min 10000 (base + q + 1 + d7 % (1 + wide / 3))]⟩)), some (.d (.int n2)), x13, ⟨show 0 ≤ base + q by omega, show base + q ≤ 9999 by omega, ok_barW, by simp, fun _ => ⟨_, rfl, show base + q < min 10000 (base + q + 1 + d7 % (1 + wide / 3)) by omega, by omega, show min 10000 (base + q + 1 + d7 % (1 + wide / 3)) ≤ base + q + 1000 by omega⟩⟩, ?_⟩
    unfold tD at ff i0 ef ⊢
    simp only [s_seq, s_nil, then_nx, then_ret, then_brk, then_ct, r_asg, r_asgT, r_aug, r_app, r_ext, r_ins, r_clr, r_item, r_if, r_for, r_forN, fo_list, q_rev, rv_list, r_ret, r_retV, r_retN, r_brk, r_ct, r_drop, q_var, q_c, q_bin, q_neg, q_not, q_and, q_or, q_if, q_nil, q_cons, q_tup, q_lst, q_ix, q_step, step_list, q_ssc, q_opt0, q_opt1, q_sl, q_call, q_isi, q_tB, q_tVal, q_tNot, q_tAnd, q_tOr, q_tYes, q_chain, q_seq, q_range1, v_dict, frzS_nil, frzS_cons, fz1_d, fz1_o, fz1_n, q_join, q_split, q_dec, dec_str, tup_rl, f_str, f_tuple, f_int, out_retS, stv_list, r_newK, it_k, th_k, hd_k, fz_k, fz1_k, list_k, q_inT, q_getT, it_int, it_str, gt_str, any_int, r_star, stv_tup, q_zip, sq_list, sq_tup, q_range2, r2_int, sl_tup, q_inT, q_getT, it_int, it_str, gt_str, any_int, r_star, stv_tup, q_zip, sq_list, sq_tup, q_range2, r2_int, sl_tup, v_list, v_listF, v_int, v_bool, v_str, v_none, v_tup, aft_t, aft_f, mk_no, mk_yes, mk_call, ret_list, ret_no, ret_int, ret_bool, ret_str, ret_none, ret_tup, retSv_own, retSv_d, o_add, o_sub, o_mul, o_fdiv, o_mod, o_pow, o_lt, o_le, o_gt, o_ge, o_eqI, o_neI, o_eqB, o_neB, o_addL, b_bool, x_list, x_tup, at0, at1, at2, at3, at4, at5, at6, at7, at_last, atN, len_l, len_t, len_s, max_r, min_r, list_r, f_len, f_list, f_max, f_min, f_sorted, f_sum, f_any, out_ret, out_retB, out_retL, out_retT, th_d, th_o, th_n, hd_d, hd_o, hd_n, thawS_nil, thawS_cons, hideS_nil, hideS_cons, frzL_nil, frzL_cons, frzAt_eq, fz_own, fz_d, fz_n, fl_int, fl_bool, fl_str, fl_tup, fls_nil, fls_cons, fls_app, fls_ints, tg1, tg2, tx1, tx2, sv_nil, sv_cons, dn_nil, dn_cons, wd_nil, wd_cons, so_list, so_tup, ro_int, ng_int, ap_own, au_int, au_add, au_sub, tv_bool, tv_list, tv_int, Option.bind_some, Option.bind_none, Option.map_some, Option.map_none, Option.getD_some, Option.getD_none, Option.join_some, List.getElem?_cons_zero, List.getElem?_cons_succ, List.set_cons_zero, List.set_cons_succ, List.length_cons, List.length_nil, List.length_map, ite_true, ite_false, if_true, if_false, Bool.and_true, Bool.true_and, Bool.false_eq_true, decide_eq_true_eq, Bool.not_true, Bool.not_false, and_self, and_true, true_and, reduceIte, B_few_0, G_few_cell, ec, G_few_digits, ed, fr_digits, l8, G_few_len, pf, pg, e1, G_few_fact, ef, ff, h0, decide_true, eq_self, e2, i0, G_few_min, hd3, hm3, l4, fls_ints, hl, List.map_cons, List.map_nil, Int.reduceEq, decide_false]
  · by_cases h1 : d4 = 1
    · refine ⟨⟨base + q, "walk", n1, [n3]⟩, (some (.own [.int d0, .int d1, .int d2, .int d3, .int d4, .int d5, .int d6, .int d7])), some (.d (.int n1)), some (.d (tD ⟨base + q, "walk", n1, [n3]⟩)), x12, some (.d (.int ((d5 + 1 + d6 % ((fields.length : Int) - 1)) % (fields.length : Int)))), ⟨show 0 ≤ base + q by omega, show base + q ≤ 9999 by omega, ok_walkW, by simp, fun z => absurd z walk_bar⟩, ?_⟩
      unfold tD at ff i0 ef ⊢
      simp only [s_seq, s_nil, then_nx, then_ret, then_brk, then_ct, r_asg, r_asgT, r_aug, r_app, r_ext, r_ins, r_clr, r_item, r_if, r_for, r_forN, fo_list, q_rev, rv_list, r_ret, r_retV, r_retN, r_brk, r_ct, r_drop, q_var, q_c, q_bin, q_neg, q_not, q_and, q_or, q_if, q_nil, q_cons, q_tup, q_lst, q_ix, q_step, step_list, q_ssc, q_opt0, q_opt1, q_sl, q_call, q_isi, q_tB, q_tVal, q_tNot, q_tAnd, q_tOr, q_tYes, q_chain, q_seq, q_range1, v_dict, frzS_nil, frzS_cons, fz1_d, fz1_o, fz1_n, q_join, q_split, q_dec, dec_str, tup_rl, f_str, f_tuple, f_int, out_retS, stv_list, r_newK, it_k, th_k, hd_k, fz_k, fz1_k, list_k, q_inT, q_getT, it_int, it_str, gt_str, any_int, r_star, stv_tup, q_zip, sq_list, sq_tup, q_range2, r2_int, sl_tup, q_inT, q_getT, it_int, it_str, gt_str, any_int, r_star, stv_tup, q_zip, sq_list, sq_tup, q_range2, r2_int, sl_tup, v_list, v_listF, v_int, v_bool, v_str, v_none, v_tup, aft_t, aft_f, mk_no, mk_yes, mk_call, ret_list, ret_no, ret_int, ret_bool, ret_str, ret_none, ret_tup, retSv_own, retSv_d, o_add, o_sub, o_mul, o_fdiv, o_mod, o_pow, o_lt, o_le, o_gt, o_ge, o_eqI, o_neI, o_eqB, o_neB, o_addL, b_bool, x_list, x_tup, at0, at1, at2, at3, at4, at5, at6, at7, at_last, atN, len_l, len_t, len_s, max_r, min_r, list_r, f_len, f_list, f_max, f_min, f_sorted, f_sum, f_any, out_ret, out_retB, out_retL, out_retT, th_d, th_o, th_n, hd_d, hd_o, hd_n, thawS_nil, thawS_cons, hideS_nil, hideS_cons, frzL_nil, frzL_cons, frzAt_eq, fz_own, fz_d, fz_n, fl_int, fl_bool, fl_str, fl_tup, fls_nil, fls_cons, fls_app, fls_ints, tg1, tg2, tx1, tx2, sv_nil, sv_cons, dn_nil, dn_cons, wd_nil, wd_cons, so_list, so_tup, ro_int, ng_int, ap_own, au_int, au_add, au_sub, tv_bool, tv_list, tv_int, Option.bind_some, Option.bind_none, Option.map_some, Option.map_none, Option.getD_some, Option.getD_none, Option.join_some, List.getElem?_cons_zero, List.getElem?_cons_succ, List.set_cons_zero, List.set_cons_succ, List.length_cons, List.length_nil, List.length_map, ite_true, ite_false, if_true, if_false, Bool.and_true, Bool.true_and, Bool.false_eq_true, decide_eq_true_eq, Bool.not_true, Bool.not_false, and_self, and_true, true_and, reduceIte, B_few_0, G_few_cell, ec, G_few_digits, ed, fr_digits, l8, G_few_len, pf, pg, pg1, pgt, e1, G_few_fact, ef, ff, h1, decide_true, eq_self, e3, i0, l4, fls_ints, hl, List.map_cons, List.map_nil, Int.reduceEq, decide_false]
    · refine ⟨⟨base + q, w, n1, r⟩, (some (.own [.int d0, .int d1, .int d2, .int d3, .int d4, .int d5, .int d6, .int d7])), some (.d (.int n1)), some (.d (tD ⟨base + q, w, n1, r⟩)), x12, x13, ⟨show 0 ≤ base + q by omega, show base + q ≤ 9999 by omega, hw, hr, fun z => absurd z hb⟩, ?_⟩
      unfold tD at ff i0 ef ⊢
      simp only [s_seq, s_nil, then_nx, then_ret, then_brk, then_ct, r_asg, r_asgT, r_aug, r_app, r_ext, r_ins, r_clr, r_item, r_if, r_for, r_forN, fo_list, q_rev, rv_list, r_ret, r_retV, r_retN, r_brk, r_ct, r_drop, q_var, q_c, q_bin, q_neg, q_not, q_and, q_or, q_if, q_nil, q_cons, q_tup, q_lst, q_ix, q_step, step_list, q_ssc, q_opt0, q_opt1, q_sl, q_call, q_isi, q_tB, q_tVal, q_tNot, q_tAnd, q_tOr, q_tYes, q_chain, q_seq, q_range1, v_dict, frzS_nil, frzS_cons, fz1_d, fz1_o, fz1_n, q_join, q_split, q_dec, dec_str, tup_rl, f_str, f_tuple, f_int, out_retS, stv_list, r_newK, it_k, th_k, hd_k, fz_k, fz1_k, list_k, q_inT, q_getT, it_int, it_str, gt_str, any_int, r_star, stv_tup, q_zip, sq_list, sq_tup, q_range2, r2_int, sl_tup, q_inT, q_getT, it_int, it_str, gt_str, any_int, r_star, stv_tup, q_zip, sq_list, sq_tup, q_range2, r2_int, sl_tup, v_list, v_listF, v_int, v_bool, v_str, v_none, v_tup, aft_t, aft_f, mk_no, mk_yes, mk_call, ret_list, ret_no, ret_int, ret_bool, ret_str, ret_none, ret_tup, retSv_own, retSv_d, o_add, o_sub, o_mul, o_fdiv, o_mod, o_pow, o_lt, o_le, o_gt, o_ge, o_eqI, o_neI, o_eqB, o_neB, o_addL, b_bool, x_list, x_tup, at0, at1, at2, at3, at4, at5, at6, at7, at_last, atN, len_l, len_t, len_s, max_r, min_r, list_r, f_len, f_list, f_max, f_min, f_sorted, f_sum, f_any, out_ret, out_retB, out_retL, out_retT, th_d, th_o, th_n, hd_d, hd_o, hd_n, thawS_nil, thawS_cons, hideS_nil, hideS_cons, frzL_nil, frzL_cons, frzAt_eq, fz_own, fz_d, fz_n, fl_int, fl_bool, fl_str, fl_tup, fls_nil, fls_cons, fls_app, fls_ints, tg1, tg2, tx1, tx2, sv_nil, sv_cons, dn_nil, dn_cons, wd_nil, wd_cons, so_list, so_tup, ro_int, ng_int, ap_own, au_int, au_add, au_sub, tv_bool, tv_list, tv_int, Option.bind_some, Option.bind_none, Option.map_some, Option.map_none, Option.getD_some, Option.getD_none, Option.join_some, List.getElem?_cons_zero, List.getElem?_cons_succ, List.set_cons_zero, List.set_cons_succ, List.length_cons, List.length_nil, List.length_map, ite_true, ite_false, if_true, if_false, Bool.and_true, Bool.true_and, Bool.false_eq_true, decide_eq_true_eq, Bool.not_true, Bool.not_false, and_self, and_true, true_and, reduceIte, B_few_0, G_few_cell, ec, G_few_digits, ed, fr_digits, l8, G_few_len, pf, pg, e1, G_few_fact, ef, ff, h0, h1, decide_false, fls_ints, hl]
theorem few_loop (ns : List Int) (start many base wide : Int) (folk fields : List Int) (hs : 0 ≤ start) (f2 : 2 ≤ folk.length) (f1 : folk.length ≤ 100) (g2 : 2 ≤ fields.length) (g1 : fields.length ≤ 100) (b0 : 0 ≤ base) (w0 : 0 < wide) (bw : base + wide ≤ 10000) (w1 : wide ≤ 1000) : ∀ (m i : Nat) (fs : List Ft) (x8 x9 x10 x11 x12 x13 : Option Sv), fs.length + m ≤ 1000 → (∀ f ∈ fs, FtOk f) →
    ∃ (fs' : List Ft), ∃ y8 y9 y10 y11 y12 y13, (∀ f ∈ fs', FtOk f) ∧ fs'.length = fs.length + m ∧ forD (b_few_0 F9) (.one 8) ((List.range' i m).map fun i => PyData.int (0 + (i : Nat))) [some (.d (scrD ns)), some (.d (.int start)), some (.d (.int many)), some (.d (.list (folk.map PyData.int))), some (.d (.list (fields.map PyData.int))), some (.d (.int base)), some (.d (.int wide)), some (.own (fs.map tD)), x8, x9, x10, x11, x12, x13] =
      some (.nx [some (.d (scrD ns)), some (.d (.int start)), some (.d (.int many)), some (.d (.list (folk.map PyData.int))), some (.d (.list (fields.map PyData.int))), some (.d (.int base)), some (.d (.int wide)), some (.own (fs'.map tD)), y8, y9, y10, y11, y12, y13])
  | 0, i, fs, x8, x9, x10, x11, x12, x13, hl, hf => ⟨fs, x8, x9, x10, x11, x12, x13, hf, rfl, rfl⟩
  | m + 1, i, fs, x8, x9, x10, x11, x12, x13, hl, hf => by
    obtain ⟨f, y9, y10, y11, y12, y13, fok, e⟩ := few_turn ns start many (0 + (i : Int)) base wide folk fields (fs.map tD) x9 x10 x11 x12 x13 (by omega) f2 f1 g2 g1 b0 w0 bw w1 (by rw [List.length_map, lim_eq]; omega)
    obtain ⟨fs', z8, z9, z10, z11, z12, z13, h1, h2, e2⟩ := few_loop ns start many base wide folk fields hs f2 f1 g2 g1 b0 w0 bw w1 m (i + 1) (fs ++ [f]) (some (.d (.int (0 + (i : Int))))) y9 y10 y11 y12 y13 (by rw [List.length_append, List.length_singleton]; omega) (fun g hg => by
      rcases List.mem_append.mp hg with h | h
      · exact hf g h
      · rw [List.mem_singleton.mp h]
        exact fok)
    refine ⟨fs', z8, z9, z10, z11, z12, z13, h1, by rw [h2, List.length_append, List.length_singleton]; omega, ?_⟩
    rw [List.map_append, List.map_cons, List.map_nil] at e2
    rw [List.range'_succ, List.map_cons, for_nx e, e2]
theorem r_few (ns : List Int) (start many base wide : Int) (folk fields : List Int) (hs : 0 ≤ start) (f2 : 2 ≤ folk.length) (f1 : folk.length ≤ 100) (g2 : 2 ≤ fields.length) (g1 : fields.length ≤ 100) (b0 : 0 ≤ base) (w0 : 0 < wide) (bw : base + wide ≤ 10000) (w1 : wide ≤ 1000) (m0 : 0 ≤ many) (m1 : many ≤ 50) :
    ∃ fs : List Ft, (∀ f ∈ fs, FtOk f) ∧ fs.length ≤ 50 ∧ x_few.run [scrD ns, .int start, .int many, .list (folk.map PyData.int), .list (fields.map PyData.int), .int base, .int wide] = some (.list (fs.map tD)) := by
  obtain ⟨fs, y8, y9, y10, y11, y12, y13, h1, h2, e⟩ := few_loop ns start many base wide folk fields hs f2 f1 g2 g1 b0 w0 bw w1 many.toNat 0 [] none none none none none none (by rw [List.length_nil]; omega) (fun f hf => by cases hf)
  refine ⟨fs, h1, by rw [h2, List.length_nil]; omega, ?_⟩
  have hr : many ≤ 1000000000 ∧ -1000000000 ≤ many := by omega
  have hf : flats (fs.map tD) = true := fls_map tD_flat fs
  rw [R_few]
  rw [List.map_nil] at e
  simp only [s_seq, s_nil, then_nx, then_ret, then_brk, then_ct, r_asg, r_asgT, r_aug, r_app, r_ext, r_ins, r_clr, r_item, r_if, r_for, r_forN, fo_list, q_rev, rv_list, r_ret, r_retV, r_retN, r_brk, r_ct, r_drop, q_var, q_c, q_bin, q_neg, q_not, q_and, q_or, q_if, q_nil, q_cons, q_tup, q_lst, q_ix, q_step, step_list, q_ssc, q_opt0, q_opt1, q_sl, q_call, q_isi, q_tB, q_tVal, q_tNot, q_tAnd, q_tOr, q_tYes, q_chain, q_seq, q_range1, v_dict, frzS_nil, frzS_cons, fz1_d, fz1_o, fz1_n, q_join, q_split, q_dec, dec_str, tup_rl, f_str, f_tuple, f_int, out_retS, stv_list, r_newK, it_k, th_k, hd_k, fz_k, fz1_k, list_k, q_inT, q_getT, it_int, it_str, gt_str, any_int, r_star, stv_tup, q_zip, sq_list, sq_tup, q_range2, r2_int, sl_tup, q_inT, q_getT, it_int, it_str, gt_str, any_int, r_star, stv_tup, q_zip, sq_list, sq_tup, q_range2, r2_int, sl_tup, v_list, v_listF, v_int, v_bool, v_str, v_none, v_tup, aft_t, aft_f, mk_no, mk_yes, mk_call, ret_list, ret_no, ret_int, ret_bool, ret_str, ret_none, ret_tup, retSv_own, retSv_d, o_add, o_sub, o_mul, o_fdiv, o_mod, o_pow, o_lt, o_le, o_gt, o_ge, o_eqI, o_neI, o_eqB, o_neB, o_addL, b_bool, x_list, x_tup, at0, at1, at2, at3, at4, at5, at6, at7, at_last, atN, len_l, len_t, len_s, max_r, min_r, list_r, f_len, f_list, f_max, f_min, f_sorted, f_sum, f_any, out_ret, out_retB, out_retL, out_retT, th_d, th_o, th_n, hd_d, hd_o, hd_n, thawS_nil, thawS_cons, hideS_nil, hideS_cons, frzL_nil, frzL_cons, frzAt_eq, fz_own, fz_d, fz_n, fl_int, fl_bool, fl_str, fl_tup, fls_nil, fls_cons, fls_app, fls_ints, tg1, tg2, tx1, tx2, sv_nil, sv_cons, dn_nil, dn_cons, wd_nil, wd_cons, so_list, so_tup, ro_int, ng_int, ap_own, au_int, au_add, au_sub, tv_bool, tv_list, tv_int, Option.bind_some, Option.bind_none, Option.map_some, Option.map_none, Option.getD_some, Option.getD_none, Option.join_some, List.getElem?_cons_zero, List.getElem?_cons_succ, List.set_cons_zero, List.set_cons_succ, List.length_cons, List.length_nil, List.length_map, ite_true, ite_false, if_true, if_false, Bool.and_true, Bool.true_and, Bool.false_eq_true, decide_eq_true_eq, Bool.not_true, Bool.not_false, and_self, and_true, true_and, reduceIte, D_few_0, D_few_1, D_few_2, D_few_3, hr, Nat.zero_le, range_from]
  rw [e]
  simp only [s_seq, s_nil, then_nx, then_ret, then_brk, then_ct, r_asg, r_asgT, r_aug, r_app, r_ext, r_ins, r_clr, r_item, r_if, r_for, r_forN, fo_list, q_rev, rv_list, r_ret, r_retV, r_retN, r_brk, r_ct, r_drop, q_var, q_c, q_bin, q_neg, q_not, q_and, q_or, q_if, q_nil, q_cons, q_tup, q_lst, q_ix, q_step, step_list, q_ssc, q_opt0, q_opt1, q_sl, q_call, q_isi, q_tB, q_tVal, q_tNot, q_tAnd, q_tOr, q_tYes, q_chain, q_seq, q_range1, v_dict, frzS_nil, frzS_cons, fz1_d, fz1_o, fz1_n, q_join, q_split, q_dec, dec_str, tup_rl, f_str, f_tuple, f_int, out_retS, stv_list, r_newK, it_k, th_k, hd_k, fz_k, fz1_k, list_k, q_inT, q_getT, it_int, it_str, gt_str, any_int, r_star, stv_tup, q_zip, sq_list, sq_tup, q_range2, r2_int, sl_tup, q_inT, q_getT, it_int, it_str, gt_str, any_int, r_star, stv_tup, q_zip, sq_list, sq_tup, q_range2, r2_int, sl_tup, v_list, v_listF, v_int, v_bool, v_str, v_none, v_tup, aft_t, aft_f, mk_no, mk_yes, mk_call, ret_list, ret_no, ret_int, ret_bool, ret_str, ret_none, ret_tup, retSv_own, retSv_d, o_add, o_sub, o_mul, o_fdiv, o_mod, o_pow, o_lt, o_le, o_gt, o_ge, o_eqI, o_neI, o_eqB, o_neB, o_addL, b_bool, x_list, x_tup, at0, at1, at2, at3, at4, at5, at6, at7, at_last, atN, len_l, len_t, len_s, max_r, min_r, list_r, f_len, f_list, f_max, f_min, f_sorted, f_sum, f_any, out_ret, out_retB, out_retL, out_retT, th_d, th_o, th_n, hd_d, hd_o, hd_n, thawS_nil, thawS_cons, hideS_nil, hideS_cons, frzL_nil, frzL_cons, frzAt_eq, fz_own, fz_d, fz_n, fl_int, fl_bool, fl_str, fl_tup, fls_nil, fls_cons, fls_app, fls_ints, tg1, tg2, tx1, tx2, sv_nil, sv_cons, dn_nil, dn_cons, wd_nil, wd_cons, so_list, so_tup, ro_int, ng_int, ap_own, au_int, au_add, au_sub, tv_bool, tv_list, tv_int, Option.bind_some, Option.bind_none, Option.map_some, Option.map_none, Option.getD_some, Option.getD_none, Option.join_some, List.getElem?_cons_zero, List.getElem?_cons_succ, List.set_cons_zero, List.set_cons_succ, List.length_cons, List.length_nil, List.length_map, ite_true, ite_false, if_true, if_false, Bool.and_true, Bool.true_and, Bool.false_eq_true, decide_eq_true_eq, Bool.not_true, Bool.not_false, and_self, and_true, true_and, reduceIte, D_few_0, D_few_1, D_few_2, D_few_3, hf]
/-! ### facts are what they are -/
theorem can_ints : ∀ ns : List Int, PyData.canLayAll0 (ns.map PyData.int) = true
  | [] => by rw [List.map_nil, PyData.canLayAll0]
  | n :: ns => by
    rw [List.map_cons, PyData.canLayAll0, can_ints ns, Bool.and_true, PyData.canLay0]
theorem dep_ints : ∀ ns : List Int, PyData.depthAll (ns.map PyData.int) = 0
  | [] => by rw [List.map_nil, PyData.depthAll]
  | n :: ns => by
    rw [List.map_cons, PyData.depthAll, dep_ints ns, PyData.depth]
    rfl
theorem eqv_ints : ∀ ns : List Int, PyData.eqvAll (ns.map PyData.int) (ns.map PyData.int) = true
  | [] => by rw [List.map_nil, PyData.eqvAll]
  | n :: ns => by
    rw [List.map_cons, PyData.eqvAll, eqv_ints ns, Bool.and_true]
    simp [PyData.eqv]
theorem sh_facts (fs : List Ft) (hf : ∀ f ∈ fs, FtOk f) : SeqAt.shaped (.list (fs.map tD)) = true := by
  unfold SeqAt.shaped
  rw [PyData.canLay0, PyData.depth, Bool.and_eq_true]
  have h1 : ∀ fs : List Ft, (∀ f ∈ fs, FtOk f) → PyData.canLayAll0 (fs.map tD) = true := fun fs => by
    induction fs with
    | nil =>
      intro _
      rw [List.map_nil, PyData.canLayAll0]
    | cons p r ih =>
      intro h
      rw [List.map_cons, PyData.canLayAll0, ih fun f hf => h f (List.mem_cons_of_mem _ hf), Bool.and_true]
      unfold tD
      simp [PyData.canLay0, PyData.canLayAll0, can_ints, (h p List.mem_cons_self).ok]
  have h2 : ∀ fs : List Ft, PyData.depthAll (fs.map tD) ≤ 1 := fun fs => by
    induction fs with
    | nil => rw [List.map_nil, PyData.depthAll]; exact Nat.zero_le _
    | cons p r ih =>
      rw [List.map_cons, PyData.depthAll]
      have : (tD p).depth ≤ 1 := by
        unfold tD
        simp [PyData.depth, PyData.depthAll, dep_ints]
      omega
  refine ⟨h1 fs hf, decide_eq_true ?_⟩
  have := h2 fs
  omega
theorem eqv_facts : ∀ fs : List Ft, PyData.eqvAll (fs.map tD) (fs.map tD) = true
  | [] => by rw [List.map_nil, PyData.eqvAll]
  | f :: fs => by
    rw [List.map_cons, PyData.eqvAll, eqv_facts fs, Bool.and_true]
    unfold tD
    simp [PyData.eqv, PyData.eqvAll, eqv_ints]
theorem eq_facts (fs : List Ft) (hf : ∀ f ∈ fs, FtOk f) : opD .eq (.list (fs.map tD)) (.list (fs.map tD)) = some (.bool true) := by
  rw [o_eqD (sh_facts fs hf) (sh_facts fs hf), PyData.eqv, eqv_facts]
theorem ne_facts (fs : List Ft) (hf : ∀ f ∈ fs, FtOk f) : opD .ne (.list (fs.map tD)) (.list (fs.map tD)) = some (.bool false) := by
  rw [o_neD (sh_facts fs hf) (sh_facts fs hf), PyData.eqv, eqv_facts]
  rfl
/-! ### facts in their order -/
def leT (f g : Ft) : Bool := PySem.W.dataLe false tD f g
theorem leT_eq (f g : Ft) : leT f g = !PySem.W.dataLt (tD g) (tD f) := rfl
theorem leT_all : PySem.W.TotalLe leT := by
  have e : leT = PySem.W.dataLe false tD := rfl
  rw [e]
  exact PySem.W.sortLe_total _ _ _
def tokT (f : Ft) : List (Int ⊕ List Nat) := .inl 1 :: .inl f.day :: .inl 1 :: .inr f.w.cps.toList :: .inl 1 :: .inl f.a :: PySem.W.keyToksAll (f.r.map PyData.int)
theorem tok_t (f : Ft) : PySem.W.keyToks (tD f) = tokT f := by
  unfold tD tokT
  rw [PySem.W.keyToks, PySem.W.keyToksAll, PySem.W.keyToksAll, PySem.W.keyToksAll, PySem.W.keyToks, PySem.W.keyToks, PySem.W.keyToks]
  rfl
theorem tok_r : ∀ r s : List Int, PySem.W.keyToksAll (r.map PyData.int) = PySem.W.keyToksAll (s.map PyData.int) → r = s
  | [], [], _ => rfl
  | [], m :: s, h => by
    rw [List.map_cons, List.map_nil, PySem.W.keyToksAll, PySem.W.keyToksAll] at h
    cases h
  | n :: r, [], h => by
    rw [List.map_cons, List.map_nil, PySem.W.keyToksAll, PySem.W.keyToksAll] at h
    cases h
  | n :: r, m :: s, h => by
    rw [List.map_cons, List.map_cons, PySem.W.keyToksAll, PySem.W.keyToksAll, PySem.W.keyToks, PySem.W.keyToks] at h
    have h := List.cons.inj (List.cons.inj h).2
    rw [Sum.inl.inj h.1, tok_r r s h.2]
theorem tokT_inj {f g : Ft} (h : tokT f = tokT g) : f = g := by
  unfold tokT at h
  have h := (List.cons.inj h).2
  have h1 := List.cons.inj h
  have h2 := List.cons.inj (List.cons.inj h1.2).2
  have h3 := List.cons.inj (List.cons.inj h2.2).2
  have e1 := Sum.inl.inj h1.1
  have e2 := PySem.W.str_of_cps (Sum.inr.inj h2.1)
  have e3 := Sum.inl.inj h3.1
  have e4 := tok_r _ _ h3.2
  cases f
  cases g
  simp only at e1 e2 e3 e4
  rw [e1, e2, e3, e4]
theorem leT_anti {f g : Ft} (h1 : leT f g = true) (h2 : leT g f = true) : f = g := by
  rw [leT_eq, Bool.not_eq_true'] at h1 h2
  unfold PySem.W.dataLt at h1 h2
  rw [tok_t, tok_t] at h1 h2
  exact tokT_inj (PyProof.Rows.lex_total (O := PyProof.Rows.itemOrd) _ _ h2 h1)
theorem leT_day {f g : Ft} (h : leT f g = true) : f.day ≤ g.day := by
  rw [leT_eq, Bool.not_eq_true'] at h
  unfold PySem.W.dataLt at h
  rw [tok_t, tok_t] at h
  unfold tokT at h
  by_cases hd : g.day < f.day
  · rw [PyProof.Rows.lex_cons, PyProof.Rows.lex_cons] at h
    have e1 : PyProof.Rows.itemOrd.blt (.inl 1) (.inl 1) = false := rfl
    have e2 : PyProof.Rows.itemOrd.blt (.inl g.day) (.inl f.day) = true := decide_eq_true hd
    rw [e1, e2] at h
    cases h
  · omega
theorem alike_ints : ∀ r s : List Int, PySem.W.alikeAll (r.map PyData.int) (s.map PyData.int) = true
  | [], s => by rw [List.map_nil]; cases s <;> simp [PySem.W.alikeAll]
  | n :: r, [] => by rw [List.map_cons, List.map_nil]; simp [PySem.W.alikeAll]
  | n :: r, m :: s => by
    rw [List.map_cons, List.map_cons, PySem.W.alikeAll, alike_ints r s]
    simp [PySem.W.alike]
theorem alike_t (f g : Ft) : PySem.W.alike (tD f) (tD g) = true := by
  unfold tD
  rw [PySem.W.alike, PySem.W.alikeAll, PySem.W.alikeAll, PySem.W.alikeAll, alike_ints]
  simp [PySem.W.alike]
theorem dep_t (f : Ft) : (tD f).depth ≤ 1 := by
  unfold tD
  simp [PyData.depth, PyData.depthAll, dep_ints]
theorem can_t {f : Ft} (h : FtOk f) : PyData.canLay0 (tD f) = true := by
  unfold tD
  simp [PyData.canLay0, PyData.canLayAll0, can_ints, h.ok]
theorem sh_t {f : Ft} (h : FtOk f) : SeqAt.shaped (tD f) = true := by
  have hd := dep_t f
  unfold SeqAt.shaped
  rw [can_t h, Bool.true_and]
  exact decide_eq_true (by omega)
theorem le_t {f g : Ft} (hf : FtOk f) (hg : FtOk g) : opD .le (tD f) (tD g) = some (.bool (leT f g)) := by
  have h1 := alike_t f g
  have h2 := sh_t hf
  have h3 := sh_t hg
  have h4 := dep_t f
  rw [leT_eq]
  unfold tD at *
  exact o_leT h1 h2 h3 (by omega)
theorem sortB_t {fs : List Ft} (hf : ∀ f ∈ fs, FtOk f) (h : fs.length ≤ lim) : sortB (fs.map tD) = true := by
  unfold sortB
  rw [Bool.and_eq_true, Bool.and_eq_true, Bool.and_eq_true]
  refine ⟨⟨⟨?_, ?_⟩, ?_⟩, ?_⟩
  · rw [List.all_map, List.all_eq_true]
    intro p _
    show (fs.map tD).all (fun e => PySem.W.alike (tD p) e) = true
    rw [List.all_map, List.all_eq_true]
    intro q _
    exact alike_t p q
  · rw [Bool.or_eq_true]
    refine .inl ?_
    rw [List.all_map, List.all_eq_true]
    intro p _
    rfl
  · rw [List.all_map, List.all_eq_true]
    intro p hp
    have := dep_t p
    show (PyData.canLay0 (tD p) && decide ((tD p).depth ≤ 32)) = true
    rw [can_t (hf p hp), Bool.true_and]
    exact decide_eq_true (by omega)
  · rw [List.length_map]
    exact decide_eq_true h
def srt (fs : List Ft) : List Ft := fs.mergeSort leT
theorem sortD_t (fs : List Ft) : sortD (fs.map tD) = (srt fs).map tD := by
  unfold sortD srt
  exact (List.map_mergeSort (f := tD) (r := leT) (s := PySem.W.dataLe false id) fun p _ q _ => rfl).symm
theorem srt_perm (fs : List Ft) : (srt fs).Perm fs := List.mergeSort_perm fs leT
theorem srt_up (fs : List Ft) : (srt fs).Pairwise fun f g => leT f g = true := List.pairwise_mergeSort leT_all.trans (fun f g => by rw [Bool.or_eq_true]; exact leT_all.total f g) fs
theorem srt_one {a b : List Ft} (ha : a.Pairwise fun f g => leT f g = true) (hb : b.Pairwise fun f g => leT f g = true) (h : a.Perm b) : a = b := List.Perm.eq_of_pairwise (fun f g _ _ h1 h2 => leT_anti h1 h2) ha hb h
theorem srt_filter (p : Ft → Bool) (fs : List Ft) : srt (fs.filter p) = (srt fs).filter p := srt_one (srt_up _) ((srt_up fs).filter p) ((srt_perm _).trans ((srt_perm fs).symm.filter p))
theorem srt_mem {f : Ft} {fs : List Ft} : f ∈ srt fs ↔ f ∈ fs := (srt_perm fs).mem_iff
theorem srt_ok {fs : List Ft} (hf : ∀ f ∈ fs, FtOk f) : ∀ f ∈ srt fs, FtOk f := fun f h => hf f (srt_mem.mp h)
theorem srt_len (fs : List Ft) : (srt fs).length = fs.length := (srt_perm fs).length_eq
/-! ### put in one by one -/
theorem r_while {n : Nat} {t : DenT} {body : DenS} {F : List Sem1} {sv : SE} : sWhile n t body F sv = whD (fun env => t F (thawS env)) (body F) n sv := rfl
theorem wh_succ (t : SE → Option Bool) (body : SE → Option Fl) (n : Nat) (env : SE) : whD t body (n + 1) env = match t env with
    | none => none
    | some false => some (.nx env)
    | some true => match body env with
      | some (.nx e) => whD t body n e
      | some (.ct e) => whD t body n e
      | some (.brk e) => some (.nx e)
      | some (.ret d fr) => some (.ret d fr)
      | none => none := rfl
theorem wh_go {t : SE → Option Bool} {body : SE → Option Fl} {n : Nat} {env e : SE} (h : t env = some true) (hb : body env = some (.nx e)) : whD t body (n + 1) env = whD t body n e := by
  rw [wh_succ, h]
  simp only [hb]
theorem wh_end {t : SE → Option Bool} {body : SE → Option Fl} {n : Nat} {env : SE} (h : t env = some false) : whD t body (n + 1) env = some (.nx env) := by
  rw [wh_succ, h]
def insT (f : Ft) : List Ft → List Ft
  | [] => [f]
  | g :: r => if leT g f = true then g :: insT f r else f :: g :: r
def posT (f : Ft) : List Ft → Nat
  | [] => 0
  | g :: r => if leT g f = true then posT f r + 1 else 0
theorem posT_le (f : Ft) : ∀ r : List Ft, posT f r ≤ r.length
  | [] => Nat.le_refl _
  | g :: r => by
    have := posT_le f r
    unfold posT
    rw [List.length_cons]
    split <;> omega
theorem insT_pos (f : Ft) : ∀ r : List Ft, r.take (posT f r) ++ [f] ++ r.drop (posT f r) = insT f r
  | [] => rfl
  | g :: r => by
    have ih := insT_pos f r
    unfold posT insT
    split
    · rw [List.take_succ_cons, List.drop_succ_cons, ← ih]
      rfl
    · rfl
theorem insT_perm (f : Ft) : ∀ r : List Ft, (insT f r).Perm (f :: r)
  | [] => .refl _
  | g :: r => by
    unfold insT
    split
    · exact ((insT_perm f r).cons g).trans (.swap _ _ _)
    · exact .refl _
theorem insT_up (f : Ft) : ∀ {r : List Ft}, (r.Pairwise fun f g => leT f g = true) → (insT f r).Pairwise fun f g => leT f g = true
  | [], _ => List.pairwise_singleton _ _
  | g :: r, h => by
    have hg := List.pairwise_cons.mp h
    unfold insT
    split
    · rename_i hl
      refine List.pairwise_cons.mpr ⟨fun x hx => ?_, insT_up f hg.2⟩
      rcases List.mem_cons.mp ((insT_perm f r).mem_iff.mp hx) with rfl | hx
      · exact hl
      · exact hg.1 x hx
    · rename_i hl
      have hfg : leT f g = true := (leT_all.total f g).resolve_right hl
      refine List.pairwise_cons.mpr ⟨fun x hx => ?_, h⟩
      rcases List.mem_cons.mp hx with rfl | hx
      · exact hfg
      · exact leT_all.trans _ _ _ hfg (hg.1 x hx)
theorem wh_ins (L : D) (f : Ft) (hf : FtOk f) (out : List Ft) (ho : ∀ g ∈ out, FtOk g) : ∀ (rest pre : List Ft) (n : Nat), out = pre ++ rest → rest.length < n →
    whD (fun env => t_sorted_1 F10 (thawS env)) (b_sorted_1 F10) n [some (.d L), some (.own (out.map tD)), some (.d (tD f)), some (.d (.int (pre.length : Nat)))] = some (.nx [some (.d L), some (.own (out.map tD)), some (.d (tD f)), some (.d (.int (((pre.length + posT f rest : Nat)))))])
  | [], pre, n + 1, hout, hn => by
    have hlen : out.length = pre.length := by rw [hout, List.append_nil]
    have ht : t_sorted_1 F10 (thawS [some (.d L), some (.own (out.map tD)), some (.d (tD f)), some (.d (.int (pre.length : Nat)))]) = some false := by
      rw [Q_sorted_1]
      simp only [s_seq, s_nil, then_nx, then_ret, then_brk, then_ct, r_asg, r_asgT, r_aug, r_app, r_ext, r_ins, r_clr, r_item, r_if, r_for, r_forN, fo_list, q_rev, rv_list, r_ret, r_retV, r_retN, r_brk, r_ct, r_drop, q_var, q_c, q_bin, q_neg, q_not, q_and, q_or, q_if, q_nil, q_cons, q_tup, q_lst, q_ix, q_step, step_list, q_ssc, q_opt0, q_opt1, q_sl, q_call, q_isi, q_tB, q_tVal, q_tNot, q_tAnd, q_tOr, q_tYes, q_chain, q_seq, q_range1, v_dict, frzS_nil, frzS_cons, fz1_d, fz1_o, fz1_n, q_join, q_split, q_dec, dec_str, tup_rl, f_str, f_tuple, f_int, out_retS, stv_list, r_newK, it_k, th_k, hd_k, fz_k, fz1_k, list_k, q_inT, q_getT, it_int, it_str, gt_str, any_int, r_star, stv_tup, q_zip, sq_list, sq_tup, q_range2, r2_int, sl_tup, q_inT, q_getT, it_int, it_str, gt_str, any_int, r_star, stv_tup, q_zip, sq_list, sq_tup, q_range2, r2_int, sl_tup, v_list, v_listF, v_int, v_bool, v_str, v_none, v_tup, aft_t, aft_f, mk_no, mk_yes, mk_call, ret_list, ret_no, ret_int, ret_bool, ret_str, ret_none, ret_tup, retSv_own, retSv_d, o_add, o_sub, o_mul, o_fdiv, o_mod, o_pow, o_lt, o_le, o_gt, o_ge, o_eqI, o_neI, o_eqB, o_neB, o_addL, b_bool, x_list, x_tup, at0, at1, at2, at3, at4, at5, at6, at7, at_last, atN, len_l, len_t, len_s, max_r, min_r, list_r, f_len, f_list, f_max, f_min, f_sorted, f_sum, f_any, out_ret, out_retB, out_retL, out_retT, th_d, th_o, th_n, hd_d, hd_o, hd_n, thawS_nil, thawS_cons, hideS_nil, hideS_cons, frzL_nil, frzL_cons, frzAt_eq, fz_own, fz_d, fz_n, fl_int, fl_bool, fl_str, fl_tup, fls_nil, fls_cons, fls_app, fls_ints, tg1, tg2, tx1, tx2, sv_nil, sv_cons, dn_nil, dn_cons, wd_nil, wd_cons, so_list, so_tup, ro_int, ng_int, ap_own, au_int, au_add, au_sub, tv_bool, tv_list, tv_int, Option.bind_some, Option.bind_none, Option.map_some, Option.map_none, Option.getD_some, Option.getD_none, Option.join_some, List.getElem?_cons_zero, List.getElem?_cons_succ, List.set_cons_zero, List.set_cons_succ, List.length_cons, List.length_nil, List.length_map, ite_true, ite_false, if_true, if_false, Bool.and_true, Bool.true_and, Bool.false_eq_true, decide_eq_true_eq, Bool.not_true, Bool.not_false, and_self, and_true, true_and, reduceIte, G_sorted_len, hlen, Int.lt_irrefl, decide_false]
    rw [wh_succ, ht]
    rfl
  | g :: r, pre, n + 1, hout, hn => by
    rw [List.length_cons] at hn
    have hlen : ((pre.length : Nat) : Int) < ((out.length : Nat) : Int) := by
      rw [hout, List.length_append, List.length_cons]
      omega
    have hg : out[pre.length]? = some g := by rw [hout, List.getElem?_append_right (Nat.le_refl _), Nat.sub_self]; rfl
    have hat : atI (out.map tD) ((pre.length : Nat) : Int) = some (tD g) := by
      rw [atN, List.getElem?_map, hg]
      rfl
    have hle := le_t (ho g (List.mem_of_getElem? hg)) hf
    by_cases hl : leT g f = true
    · have ht : t_sorted_1 F10 (thawS [some (.d L), some (.own (out.map tD)), some (.d (tD f)), some (.d (.int (pre.length : Nat)))]) = some true := by
        rw [Q_sorted_1]
        simp only [thawS_cons, thawS_nil, th_d, th_o, q_tAnd, q_tB, q_bin, q_var, q_call, q_cons, q_nil, q_ix, G_sorted_len, len_l, o_lt, x_list, List.getElem?_cons_zero, List.getElem?_cons_succ, Option.join_some, Option.bind_some, List.length_map, decide_eq_true hlen, b_bool, if_true, hat, hle, hl]
      have hb : b_sorted_1 F10 [some (.d L), some (.own (out.map tD)), some (.d (tD f)), some (.d (.int (pre.length : Nat)))] = some (.nx [some (.d L), some (.own (out.map tD)), some (.d (tD f)), some (.d (.int ((pre.length : Nat) + 1)))]) := by
        simp only [s_seq, s_nil, then_nx, then_ret, then_brk, then_ct, r_asg, r_asgT, r_aug, r_app, r_ext, r_ins, r_clr, r_item, r_if, r_for, r_forN, fo_list, q_rev, rv_list, r_ret, r_retV, r_retN, r_brk, r_ct, r_drop, q_var, q_c, q_bin, q_neg, q_not, q_and, q_or, q_if, q_nil, q_cons, q_tup, q_lst, q_ix, q_step, step_list, q_ssc, q_opt0, q_opt1, q_sl, q_call, q_isi, q_tB, q_tVal, q_tNot, q_tAnd, q_tOr, q_tYes, q_chain, q_seq, q_range1, v_dict, frzS_nil, frzS_cons, fz1_d, fz1_o, fz1_n, q_join, q_split, q_dec, dec_str, tup_rl, f_str, f_tuple, f_int, out_retS, stv_list, r_newK, it_k, th_k, hd_k, fz_k, fz1_k, list_k, q_inT, q_getT, it_int, it_str, gt_str, any_int, r_star, stv_tup, q_zip, sq_list, sq_tup, q_range2, r2_int, sl_tup, q_inT, q_getT, it_int, it_str, gt_str, any_int, r_star, stv_tup, q_zip, sq_list, sq_tup, q_range2, r2_int, sl_tup, v_list, v_listF, v_int, v_bool, v_str, v_none, v_tup, aft_t, aft_f, mk_no, mk_yes, mk_call, ret_list, ret_no, ret_int, ret_bool, ret_str, ret_none, ret_tup, retSv_own, retSv_d, o_add, o_sub, o_mul, o_fdiv, o_mod, o_pow, o_lt, o_le, o_gt, o_ge, o_eqI, o_neI, o_eqB, o_neB, o_addL, b_bool, x_list, x_tup, at0, at1, at2, at3, at4, at5, at6, at7, at_last, atN, len_l, len_t, len_s, max_r, min_r, list_r, f_len, f_list, f_max, f_min, f_sorted, f_sum, f_any, out_ret, out_retB, out_retL, out_retT, th_d, th_o, th_n, hd_d, hd_o, hd_n, thawS_nil, thawS_cons, hideS_nil, hideS_cons, frzL_nil, frzL_cons, frzAt_eq, fz_own, fz_d, fz_n, fl_int, fl_bool, fl_str, fl_tup, fls_nil, fls_cons, fls_app, fls_ints, tg1, tg2, tx1, tx2, sv_nil, sv_cons, dn_nil, dn_cons, wd_nil, wd_cons, so_list, so_tup, ro_int, ng_int, ap_own, au_int, au_add, au_sub, tv_bool, tv_list, tv_int, Option.bind_some, Option.bind_none, Option.map_some, Option.map_none, Option.getD_some, Option.getD_none, Option.join_some, List.getElem?_cons_zero, List.getElem?_cons_succ, List.set_cons_zero, List.set_cons_succ, List.length_cons, List.length_nil, List.length_map, ite_true, ite_false, if_true, if_false, Bool.and_true, Bool.true_and, Bool.false_eq_true, decide_eq_true_eq, Bool.not_true, Bool.not_false, and_self, and_true, true_and, reduceIte, B_sorted_1]
      have ih := wh_ins L f hf out ho r (pre ++ [g]) n (by rw [hout, List.append_assoc]; rfl) (by omega)
      rw [wh_go (t := fun env => t_sorted_1 F10 (thawS env)) ht hb]
      have e1 : (((pre ++ [g]).length : Nat) : Int) = (pre.length : Nat) + 1 := by rw [List.length_append, List.length_singleton]; rfl
      rw [e1] at ih
      have e2 : posT f (g :: r) = posT f r + 1 := if_pos hl
      have e3 : (pre ++ [g]).length + posT f r = pre.length + (posT f r + 1) := by rw [List.length_append, List.length_singleton]; omega
      rw [e3] at ih
      rw [e2]
      exact ih
    · have hl' : leT g f = false := by
        cases h : leT g f with
        | true => exact absurd h hl
        | false => rfl
      have ht : t_sorted_1 F10 (thawS [some (.d L), some (.own (out.map tD)), some (.d (tD f)), some (.d (.int (pre.length : Nat)))]) = some false := by
        rw [Q_sorted_1]
        simp only [thawS_cons, thawS_nil, th_d, th_o, q_tAnd, q_tB, q_bin, q_var, q_call, q_cons, q_nil, q_ix, G_sorted_len, len_l, o_lt, x_list, List.getElem?_cons_zero, List.getElem?_cons_succ, Option.join_some, Option.bind_some, List.length_map, decide_eq_true hlen, b_bool, if_true, hat, hle, hl']
      have e2 : posT f (g :: r) = 0 := if_neg hl
      rw [wh_succ, ht, e2]
      rfl
theorem ins_turn (L : D) (f : Ft) (hf : FtOk f) (out : List Ft) (ho : ∀ g ∈ out, FtOk g) (hl : out.length ≤ 1000) (x3 : Option Sv) : ∃ y3, b_sorted_0 F10 [some (.d L), some (.own (out.map tD)), some (.d (tD f)), x3] = some (.nx [some (.d L), some (.own ((insT f out).map tD)), some (.d (tD f)), y3]) := by
  have hw := wh_ins L f hf out ho out [] big rfl (by show out.length < 100000; omega)
  rw [List.length_nil, Nat.zero_add] at hw
  have hz : ((0 : Nat) : Int) = 0 := rfl
  rw [hz] at hw
  have hp := posT_le f out
  have hp2 : ((posT f out : Nat) : Int) ≤ 1000000 := by omega
  have hp0 : (0 : Int) ≤ ((posT f out : Nat) : Int) := by omega
  have hlim : out.length < lim := by rw [lim_eq]; omega
  have e : (out.map tD).take (posT f out) ++ [tD f] ++ (out.map tD).drop (posT f out) = (insT f out).map tD := by
    rw [← insT_pos f out, List.map_append, List.map_append, List.map_take, List.map_drop]
    rfl
  refine ⟨some (.d (.int ((posT f out : Nat)))), ?_⟩
  simp only [s_seq, s_nil, then_nx, then_ret, then_brk, then_ct, r_asg, r_asgT, r_aug, r_app, r_ext, r_ins, r_clr, r_item, r_if, r_for, r_forN, fo_list, q_rev, rv_list, r_ret, r_retV, r_retN, r_brk, r_ct, r_drop, q_var, q_c, q_bin, q_neg, q_not, q_and, q_or, q_if, q_nil, q_cons, q_tup, q_lst, q_ix, q_step, step_list, q_ssc, q_opt0, q_opt1, q_sl, q_call, q_isi, q_tB, q_tVal, q_tNot, q_tAnd, q_tOr, q_tYes, q_chain, q_seq, q_range1, v_dict, frzS_nil, frzS_cons, fz1_d, fz1_o, fz1_n, q_join, q_split, q_dec, dec_str, tup_rl, f_str, f_tuple, f_int, out_retS, stv_list, r_newK, it_k, th_k, hd_k, fz_k, fz1_k, list_k, q_inT, q_getT, it_int, it_str, gt_str, any_int, r_star, stv_tup, q_zip, sq_list, sq_tup, q_range2, r2_int, sl_tup, q_inT, q_getT, it_int, it_str, gt_str, any_int, r_star, stv_tup, q_zip, sq_list, sq_tup, q_range2, r2_int, sl_tup, v_list, v_listF, v_int, v_bool, v_str, v_none, v_tup, aft_t, aft_f, mk_no, mk_yes, mk_call, ret_list, ret_no, ret_int, ret_bool, ret_str, ret_none, ret_tup, retSv_own, retSv_d, o_add, o_sub, o_mul, o_fdiv, o_mod, o_pow, o_lt, o_le, o_gt, o_ge, o_eqI, o_neI, o_eqB, o_neB, o_addL, b_bool, x_list, x_tup, at0, at1, at2, at3, at4, at5, at6, at7, at_last, atN, len_l, len_t, len_s, max_r, min_r, list_r, f_len, f_list, f_max, f_min, f_sorted, f_sum, f_any, out_ret, out_retB, out_retL, out_retT, th_d, th_o, th_n, hd_d, hd_o, hd_n, thawS_nil, thawS_cons, hideS_nil, hideS_cons, frzL_nil, frzL_cons, frzAt_eq, fz_own, fz_d, fz_n, fl_int, fl_bool, fl_str, fl_tup, fls_nil, fls_cons, fls_app, fls_ints, tg1, tg2, tx1, tx2, sv_nil, sv_cons, dn_nil, dn_cons, wd_nil, wd_cons, so_list, so_tup, ro_int, ng_int, ap_own, au_int, au_add, au_sub, tv_bool, tv_list, tv_int, Option.bind_some, Option.bind_none, Option.map_some, Option.map_none, Option.getD_some, Option.getD_none, Option.join_some, List.getElem?_cons_zero, List.getElem?_cons_succ, List.set_cons_zero, List.set_cons_succ, List.length_cons, List.length_nil, List.length_map, ite_true, ite_false, if_true, if_false, Bool.and_true, Bool.true_and, Bool.false_eq_true, decide_eq_true_eq, Bool.not_true, Bool.not_false, and_self, and_true, true_and, reduceIte, B_sorted_0, r_while, hw, in_own, tD_flat, hlim, hp2, hp0, Int.toNat_natCast]
  rw [e]
theorem ins_loop (L : D) : ∀ (fs out : List Ft) (x2 x3 : Option Sv), (∀ f ∈ fs, FtOk f) → (∀ f ∈ out, FtOk f) → out.length + fs.length ≤ 1000 → ∃ y2 y3, forD (b_sorted_0 F10) (.one 2) (fs.map tD) [some (.d L), some (.own (out.map tD)), x2, x3] = some (.nx [some (.d L), some (.own ((fs.foldl (fun o f => insT f o) out).map tD)), y2, y3])
  | [], out, x2, x3, _, _, _ => ⟨x2, x3, rfl⟩
  | f :: fs, out, x2, x3, hf, ho, hl => by
    rw [List.length_cons] at hl
    have hlen := (insT_perm f out).length_eq
    rw [List.length_cons] at hlen
    obtain ⟨z3, e1⟩ := ins_turn L f (hf f List.mem_cons_self) out ho (by omega) x3
    obtain ⟨y2, y3, e2⟩ := ins_loop L fs (insT f out) (some (.d (tD f))) z3 (fun g hg => hf g (List.mem_cons_of_mem _ hg)) (fun g hg => by
      rcases List.mem_cons.mp ((insT_perm f out).mem_iff.mp hg) with rfl | hg
      · exact hf _ List.mem_cons_self
      · exact ho g hg) (by omega)
    exact ⟨y2, y3, by rw [List.map_cons, for_nx e1, e2, List.foldl_cons]⟩
theorem fold_ins : ∀ (fs out : List Ft), (out.Pairwise fun f g => leT f g = true) → ((fs.foldl (fun o f => insT f o) out).Pairwise fun f g => leT f g = true) ∧ (fs.foldl (fun o f => insT f o) out).Perm (fs ++ out)
  | [], out, h => ⟨h, .refl _⟩
  | f :: fs, out, h => by
    obtain ⟨h1, h2⟩ := fold_ins fs (insT f out) (insT_up f h)
    exact ⟨h1, h2.trans (((insT_perm f out).append_left fs).trans List.perm_middle)⟩
theorem r_sorted (fs : List Ft) (hf : ∀ f ∈ fs, FtOk f) (hl : fs.length ≤ 1000) : x_sorted.run [.list (fs.map tD)] = some (.list ((srt fs).map tD)) := by
  obtain ⟨y2, y3, e⟩ := ins_loop (.list (fs.map tD)) fs [] none none hf (fun f h => by cases h) (by rw [List.length_nil]; omega)
  obtain ⟨h1, h2⟩ := fold_ins fs [] List.Pairwise.nil
  rw [List.append_nil] at h2
  have he : fs.foldl (fun o f => insT f o) [] = srt fs := srt_one h1 (srt_up fs) (h2.trans (srt_perm fs).symm)
  rw [he, List.map_nil] at e
  have hfl : flats ((srt fs).map tD) = true := fls_map tD_flat _
  rw [R_sorted]
  simp only [s_seq, s_nil, then_nx, then_ret, then_brk, then_ct, r_asg, r_asgT, r_aug, r_app, r_ext, r_ins, r_clr, r_item, r_if, r_for, r_forN, fo_list, q_rev, rv_list, r_ret, r_retV, r_retN, r_brk, r_ct, r_drop, q_var, q_c, q_bin, q_neg, q_not, q_and, q_or, q_if, q_nil, q_cons, q_tup, q_lst, q_ix, q_step, step_list, q_ssc, q_opt0, q_opt1, q_sl, q_call, q_isi, q_tB, q_tVal, q_tNot, q_tAnd, q_tOr, q_tYes, q_chain, q_seq, q_range1, v_dict, frzS_nil, frzS_cons, fz1_d, fz1_o, fz1_n, q_join, q_split, q_dec, dec_str, tup_rl, f_str, f_tuple, f_int, out_retS, stv_list, r_newK, it_k, th_k, hd_k, fz_k, fz1_k, list_k, q_inT, q_getT, it_int, it_str, gt_str, any_int, r_star, stv_tup, q_zip, sq_list, sq_tup, q_range2, r2_int, sl_tup, q_inT, q_getT, it_int, it_str, gt_str, any_int, r_star, stv_tup, q_zip, sq_list, sq_tup, q_range2, r2_int, sl_tup, v_list, v_listF, v_int, v_bool, v_str, v_none, v_tup, aft_t, aft_f, mk_no, mk_yes, mk_call, ret_list, ret_no, ret_int, ret_bool, ret_str, ret_none, ret_tup, retSv_own, retSv_d, o_add, o_sub, o_mul, o_fdiv, o_mod, o_pow, o_lt, o_le, o_gt, o_ge, o_eqI, o_neI, o_eqB, o_neB, o_addL, b_bool, x_list, x_tup, at0, at1, at2, at3, at4, at5, at6, at7, at_last, atN, len_l, len_t, len_s, max_r, min_r, list_r, f_len, f_list, f_max, f_min, f_sorted, f_sum, f_any, out_ret, out_retB, out_retL, out_retT, th_d, th_o, th_n, hd_d, hd_o, hd_n, thawS_nil, thawS_cons, hideS_nil, hideS_cons, frzL_nil, frzL_cons, frzAt_eq, fz_own, fz_d, fz_n, fl_int, fl_bool, fl_str, fl_tup, fls_nil, fls_cons, fls_app, fls_ints, tg1, tg2, tx1, tx2, sv_nil, sv_cons, dn_nil, dn_cons, wd_nil, wd_cons, so_list, so_tup, ro_int, ng_int, ap_own, au_int, au_add, au_sub, tv_bool, tv_list, tv_int, Option.bind_some, Option.bind_none, Option.map_some, Option.map_none, Option.getD_some, Option.getD_none, Option.join_some, List.getElem?_cons_zero, List.getElem?_cons_succ, List.set_cons_zero, List.set_cons_succ, List.length_cons, List.length_nil, List.length_map, ite_true, ite_false, if_true, if_false, Bool.and_true, Bool.true_and, Bool.false_eq_true, decide_eq_true_eq, Bool.not_true, Bool.not_false, and_self, and_true, true_and, reduceIte, D_sorted_0, D_sorted_1, D_sorted_2, D_sorted_3, Nat.zero_le]
  rw [e]
  simp only [s_seq, s_nil, then_nx, then_ret, then_brk, then_ct, r_asg, r_asgT, r_aug, r_app, r_ext, r_ins, r_clr, r_item, r_if, r_for, r_forN, fo_list, q_rev, rv_list, r_ret, r_retV, r_retN, r_brk, r_ct, r_drop, q_var, q_c, q_bin, q_neg, q_not, q_and, q_or, q_if, q_nil, q_cons, q_tup, q_lst, q_ix, q_step, step_list, q_ssc, q_opt0, q_opt1, q_sl, q_call, q_isi, q_tB, q_tVal, q_tNot, q_tAnd, q_tOr, q_tYes, q_chain, q_seq, q_range1, v_dict, frzS_nil, frzS_cons, fz1_d, fz1_o, fz1_n, q_join, q_split, q_dec, dec_str, tup_rl, f_str, f_tuple, f_int, out_retS, stv_list, r_newK, it_k, th_k, hd_k, fz_k, fz1_k, list_k, q_inT, q_getT, it_int, it_str, gt_str, any_int, r_star, stv_tup, q_zip, sq_list, sq_tup, q_range2, r2_int, sl_tup, q_inT, q_getT, it_int, it_str, gt_str, any_int, r_star, stv_tup, q_zip, sq_list, sq_tup, q_range2, r2_int, sl_tup, v_list, v_listF, v_int, v_bool, v_str, v_none, v_tup, aft_t, aft_f, mk_no, mk_yes, mk_call, ret_list, ret_no, ret_int, ret_bool, ret_str, ret_none, ret_tup, retSv_own, retSv_d, o_add, o_sub, o_mul, o_fdiv, o_mod, o_pow, o_lt, o_le, o_gt, o_ge, o_eqI, o_neI, o_eqB, o_neB, o_addL, b_bool, x_list, x_tup, at0, at1, at2, at3, at4, at5, at6, at7, at_last, atN, len_l, len_t, len_s, max_r, min_r, list_r, f_len, f_list, f_max, f_min, f_sorted, f_sum, f_any, out_ret, out_retB, out_retL, out_retT, th_d, th_o, th_n, hd_d, hd_o, hd_n, thawS_nil, thawS_cons, hideS_nil, hideS_cons, frzL_nil, frzL_cons, frzAt_eq, fz_own, fz_d, fz_n, fl_int, fl_bool, fl_str, fl_tup, fls_nil, fls_cons, fls_app, fls_ints, tg1, tg2, tx1, tx2, sv_nil, sv_cons, dn_nil, dn_cons, wd_nil, wd_cons, so_list, so_tup, ro_int, ng_int, ap_own, au_int, au_add, au_sub, tv_bool, tv_list, tv_int, Option.bind_some, Option.bind_none, Option.map_some, Option.map_none, Option.getD_some, Option.getD_none, Option.join_some, List.getElem?_cons_zero, List.getElem?_cons_succ, List.set_cons_zero, List.set_cons_succ, List.length_cons, List.length_nil, List.length_map, ite_true, ite_false, if_true, if_false, Bool.and_true, Bool.true_and, Bool.false_eq_true, decide_eq_true_eq, Bool.not_true, Bool.not_false, and_self, and_true, true_and, reduceIte, D_sorted_0, D_sorted_1, D_sorted_2, D_sorted_3, hfl]
theorem r_in_order (fs : List Ft) (hf : ∀ f ∈ fs, FtOk f) (hl : fs.length ≤ 1000) : x_in_order.run [.list (fs.map tD)] = some (.list ((srt fs).map tD)) := by
  have hs := sortB_t hf (by rw [lim_eq]; omega)
  have hfl : flats ((srt fs).map tD) = true := fls_map tD_flat _
  have f_s : semSorted.fresh = true := rfl
  rw [R_in_order]
  simp only [s_seq, s_nil, then_nx, then_ret, then_brk, then_ct, r_asg, r_asgT, r_aug, r_app, r_ext, r_ins, r_clr, r_item, r_if, r_for, r_forN, fo_list, q_rev, rv_list, r_ret, r_retV, r_retN, r_brk, r_ct, r_drop, q_var, q_c, q_bin, q_neg, q_not, q_and, q_or, q_if, q_nil, q_cons, q_tup, q_lst, q_ix, q_step, step_list, q_ssc, q_opt0, q_opt1, q_sl, q_call, q_isi, q_tB, q_tVal, q_tNot, q_tAnd, q_tOr, q_tYes, q_chain, q_seq, q_range1, v_dict, frzS_nil, frzS_cons, fz1_d, fz1_o, fz1_n, q_join, q_split, q_dec, dec_str, tup_rl, f_str, f_tuple, f_int, out_retS, stv_list, r_newK, it_k, th_k, hd_k, fz_k, fz1_k, list_k, q_inT, q_getT, it_int, it_str, gt_str, any_int, r_star, stv_tup, q_zip, sq_list, sq_tup, q_range2, r2_int, sl_tup, q_inT, q_getT, it_int, it_str, gt_str, any_int, r_star, stv_tup, q_zip, sq_list, sq_tup, q_range2, r2_int, sl_tup, v_list, v_listF, v_int, v_bool, v_str, v_none, v_tup, aft_t, aft_f, mk_no, mk_yes, mk_call, ret_list, ret_no, ret_int, ret_bool, ret_str, ret_none, ret_tup, retSv_own, retSv_d, o_add, o_sub, o_mul, o_fdiv, o_mod, o_pow, o_lt, o_le, o_gt, o_ge, o_eqI, o_neI, o_eqB, o_neB, o_addL, b_bool, x_list, x_tup, at0, at1, at2, at3, at4, at5, at6, at7, at_last, atN, len_l, len_t, len_s, max_r, min_r, list_r, f_len, f_list, f_max, f_min, f_sorted, f_sum, f_any, out_ret, out_retB, out_retL, out_retT, th_d, th_o, th_n, hd_d, hd_o, hd_n, thawS_nil, thawS_cons, hideS_nil, hideS_cons, frzL_nil, frzL_cons, frzAt_eq, fz_own, fz_d, fz_n, fl_int, fl_bool, fl_str, fl_tup, fls_nil, fls_cons, fls_app, fls_ints, tg1, tg2, tx1, tx2, sv_nil, sv_cons, dn_nil, dn_cons, wd_nil, wd_cons, so_list, so_tup, ro_int, ng_int, ap_own, au_int, au_add, au_sub, tv_bool, tv_list, tv_int, Option.bind_some, Option.bind_none, Option.map_some, Option.map_none, Option.getD_some, Option.getD_none, Option.join_some, List.getElem?_cons_zero, List.getElem?_cons_succ, List.set_cons_zero, List.set_cons_succ, List.length_cons, List.length_nil, List.length_map, ite_true, ite_false, if_true, if_false, Bool.and_true, Bool.true_and, Bool.false_eq_true, decide_eq_true_eq, Bool.not_true, Bool.not_false, and_self, and_true, true_and, reduceIte, D_in_order_0, D_in_order_1, G_in_order_sorted, sorted_r, hs, sortD_t, f_s]
/-! ### of a field, walks -/
theorem ok_bar9 : PyData.strOk "bar" = true := by decide +kernel
theorem ok_walk9 : PyData.strOk "walk" = true := by decide +kernel
theorem int_of {n : Int} : intOf (.int n) = some n := rfl
theorem eqv_r : ∀ r s : List Int, PyData.eqvAll (r.map PyData.int) (s.map PyData.int) = decide (r = s)
  | [], [] => by rw [List.map_nil, PyData.eqvAll]; rfl
  | [], m :: s => by rw [List.map_nil, List.map_cons, PyData.eqvAll]; rfl
  | n :: r, [] => by rw [List.map_nil, List.map_cons, PyData.eqvAll]; rfl
  | n :: r, m :: s => by
    rw [List.map_cons, List.map_cons, PyData.eqvAll, eqv_r r s, PyData.eqv, Bool.eq_iff_iff]
    simp
theorem nin_bw {w : Str} : opD .notin (.str w) (.tuple [.str "bar", .str "walk"]) = some (.bool (decide (w ≠ "bar" ∧ w ≠ "walk"))) := by
  show (inD (.str w) (.tuple [.str "bar", .str "walk"])).map (fun b => PyData.bool (!b)) = _
  have e : inD (.str w) (.tuple [.str "bar", .str "walk"]) = some ([PyData.str "bar", .str "walk"].any fun y => PyData.eqv y (.str w)) := rfl
  rw [e, Option.map_some, List.any_cons, List.any_cons, List.any_nil, PyData.eqv, PyData.eqv, Bool.or_false]
  congr 2
  rw [Bool.eq_iff_iff, Bool.not_eq_true', Bool.or_eq_false_iff, beq_eq_false_iff_ne, beq_eq_false_iff_ne, decide_eq_true_eq]
  exact ⟨fun h => ⟨h.1.symm, h.2.symm⟩, fun h => ⟨h.1.symm, h.2.symm⟩⟩
theorem nin_ints {d : Int} {ns : List Int} : opD .notin (.int d) (.list (ns.map PyData.int)) = some (.bool (!decide (d ∈ ns))) := by
  show (inD (.int d) (.list (ns.map PyData.int))).map (fun b => PyData.bool (!b)) = _
  have hf : (ns.map PyData.int).all flatD = true := by
    rw [List.all_map, List.all_eq_true]
    intro x _
    rfl
  have e : inD (.int d) (.list (ns.map PyData.int)) = some ((ns.map PyData.int).any fun y => PyData.eqv y (.int d)) := by
    show (if (flatD (.int d) && (ns.map PyData.int).all flatD) = true then _ else _) = _
    rw [hf]
    rfl
  have e2 : ((ns.map PyData.int).any fun y => PyData.eqv y (.int d)) = decide (d ∈ ns) := by
    rw [List.any_map, Bool.eq_iff_iff, List.any_eq_true, decide_eq_true_eq]
    constructor
    · rintro ⟨x, hx, h⟩
      have h : PyData.eqv (.int x) (.int d) = true := h
      rw [PyData.eqv] at h
      have h : x = d := by simpa using h
      rw [← h]
      exact hx
    · intro h
      exact ⟨d, h, by show PyData.eqv (.int d) (.int d) = true; rw [PyData.eqv]; simp⟩
  rw [e, e2]
  rfl
def isMine (one : Int) (f : Ft) : Bool := decide ((f.w ≠ "bar" ∧ f.w ≠ "walk") ∧ f.a = one)
def isWalk (one other : Int) (f : Ft) : Bool := decide (f.w = "walk" ∧ f.a = one ∧ f.r = [other])
theorem mine_turn (one : Int) (x : Option D) (y : D) (f : Ft) (hf : FtOk f) : lcTurn (.one 2) [2] (tAnd (tB (eBin .notin (eIx (eVar 2) (eC (.int 1))) (eTup (aCons (eC (.str "bar")) (aCons (eC (.str "walk")) aNil))))) (tB (eBin .eq (eIx (eVar 2) (eC (.int 2))) (eVar 1)))) (eVar 2) F1 [some y, some (.int one), x] (tD f) =
    some (if isMine one f = true then some (tD f) else none) := by
  rw [q_turn]
  unfold tD isMine
  have l2 : (2 : Nat) ≤ lim := by rw [lim_eq]; omega
  by_cases hb : f.w ≠ "bar" ∧ f.w ≠ "walk"
  · by_cases ha : f.a = one
    · simp only [s_seq, s_nil, then_nx, then_ret, then_brk, then_ct, r_asg, r_asgT, r_aug, r_app, r_ext, r_ins, r_clr, r_item, r_if, r_for, r_forN, fo_list, q_rev, rv_list, r_ret, r_retV, r_retN, r_brk, r_ct, r_drop, q_var, q_c, q_bin, q_neg, q_not, q_and, q_or, q_if, q_nil, q_cons, q_tup, q_lst, q_ix, q_step, step_list, q_ssc, q_opt0, q_opt1, q_sl, q_call, q_isi, q_tB, q_tVal, q_tNot, q_tAnd, q_tOr, q_tYes, q_chain, q_seq, q_range1, v_dict, frzS_nil, frzS_cons, fz1_d, fz1_o, fz1_n, q_join, q_split, q_dec, dec_str, tup_rl, f_str, f_tuple, f_int, out_retS, stv_list, r_newK, it_k, th_k, hd_k, fz_k, fz1_k, list_k, q_inT, q_getT, it_int, it_str, gt_str, any_int, r_star, stv_tup, q_zip, sq_list, sq_tup, q_range2, r2_int, sl_tup, q_inT, q_getT, it_int, it_str, gt_str, any_int, r_star, stv_tup, q_zip, sq_list, sq_tup, q_range2, r2_int, sl_tup, v_list, v_listF, v_int, v_bool, v_str, v_none, v_tup, aft_t, aft_f, mk_no, mk_yes, mk_call, ret_list, ret_no, ret_int, ret_bool, ret_str, ret_none, ret_tup, retSv_own, retSv_d, o_add, o_sub, o_mul, o_fdiv, o_mod, o_pow, o_lt, o_le, o_gt, o_ge, o_eqI, o_neI, o_eqB, o_neB, o_addL, b_bool, x_list, x_tup, at0, at1, at2, at3, at4, at5, at6, at7, at_last, atN, len_l, len_t, len_s, max_r, min_r, list_r, f_len, f_list, f_max, f_min, f_sorted, f_sum, f_any, out_ret, out_retB, out_retL, out_retT, th_d, th_o, th_n, hd_d, hd_o, hd_n, thawS_nil, thawS_cons, hideS_nil, hideS_cons, frzL_nil, frzL_cons, frzAt_eq, fz_own, fz_d, fz_n, fl_int, fl_bool, fl_str, fl_tup, fls_nil, fls_cons, fls_app, fls_ints, tg1, tg2, tx1, tx2, sv_nil, sv_cons, dn_nil, dn_cons, wd_nil, wd_cons, so_list, so_tup, ro_int, ng_int, ap_own, au_int, au_add, au_sub, tv_bool, tv_list, tv_int, Option.bind_some, Option.bind_none, Option.map_some, Option.map_none, Option.getD_some, Option.getD_none, Option.join_some, List.getElem?_cons_zero, List.getElem?_cons_succ, List.set_cons_zero, List.set_cons_succ, List.length_cons, List.length_nil, List.length_map, ite_true, ite_false, if_true, if_false, Bool.and_true, Bool.true_and, Bool.false_eq_true, decide_eq_true_eq, Bool.not_true, Bool.not_false, and_self, and_true, true_and, reduceIte, l2, nin_bw, hb, ha, decide_true, eq_self, and_self]
      simp [hb]
    · simp only [s_seq, s_nil, then_nx, then_ret, then_brk, then_ct, r_asg, r_asgT, r_aug, r_app, r_ext, r_ins, r_clr, r_item, r_if, r_for, r_forN, fo_list, q_rev, rv_list, r_ret, r_retV, r_retN, r_brk, r_ct, r_drop, q_var, q_c, q_bin, q_neg, q_not, q_and, q_or, q_if, q_nil, q_cons, q_tup, q_lst, q_ix, q_step, step_list, q_ssc, q_opt0, q_opt1, q_sl, q_call, q_isi, q_tB, q_tVal, q_tNot, q_tAnd, q_tOr, q_tYes, q_chain, q_seq, q_range1, v_dict, frzS_nil, frzS_cons, fz1_d, fz1_o, fz1_n, q_join, q_split, q_dec, dec_str, tup_rl, f_str, f_tuple, f_int, out_retS, stv_list, r_newK, it_k, th_k, hd_k, fz_k, fz1_k, list_k, q_inT, q_getT, it_int, it_str, gt_str, any_int, r_star, stv_tup, q_zip, sq_list, sq_tup, q_range2, r2_int, sl_tup, q_inT, q_getT, it_int, it_str, gt_str, any_int, r_star, stv_tup, q_zip, sq_list, sq_tup, q_range2, r2_int, sl_tup, v_list, v_listF, v_int, v_bool, v_str, v_none, v_tup, aft_t, aft_f, mk_no, mk_yes, mk_call, ret_list, ret_no, ret_int, ret_bool, ret_str, ret_none, ret_tup, retSv_own, retSv_d, o_add, o_sub, o_mul, o_fdiv, o_mod, o_pow, o_lt, o_le, o_gt, o_ge, o_eqI, o_neI, o_eqB, o_neB, o_addL, b_bool, x_list, x_tup, at0, at1, at2, at3, at4, at5, at6, at7, at_last, atN, len_l, len_t, len_s, max_r, min_r, list_r, f_len, f_list, f_max, f_min, f_sorted, f_sum, f_any, out_ret, out_retB, out_retL, out_retT, th_d, th_o, th_n, hd_d, hd_o, hd_n, thawS_nil, thawS_cons, hideS_nil, hideS_cons, frzL_nil, frzL_cons, frzAt_eq, fz_own, fz_d, fz_n, fl_int, fl_bool, fl_str, fl_tup, fls_nil, fls_cons, fls_app, fls_ints, tg1, tg2, tx1, tx2, sv_nil, sv_cons, dn_nil, dn_cons, wd_nil, wd_cons, so_list, so_tup, ro_int, ng_int, ap_own, au_int, au_add, au_sub, tv_bool, tv_list, tv_int, Option.bind_some, Option.bind_none, Option.map_some, Option.map_none, Option.getD_some, Option.getD_none, Option.join_some, List.getElem?_cons_zero, List.getElem?_cons_succ, List.set_cons_zero, List.set_cons_succ, List.length_cons, List.length_nil, List.length_map, ite_true, ite_false, if_true, if_false, Bool.and_true, Bool.true_and, Bool.false_eq_true, decide_eq_true_eq, Bool.not_true, Bool.not_false, and_self, and_true, true_and, reduceIte, l2, nin_bw, hb, ha, decide_true, decide_false, eq_self, and_self, and_false]
      simp [hb]
  · simp only [s_seq, s_nil, then_nx, then_ret, then_brk, then_ct, r_asg, r_asgT, r_aug, r_app, r_ext, r_ins, r_clr, r_item, r_if, r_for, r_forN, fo_list, q_rev, rv_list, r_ret, r_retV, r_retN, r_brk, r_ct, r_drop, q_var, q_c, q_bin, q_neg, q_not, q_and, q_or, q_if, q_nil, q_cons, q_tup, q_lst, q_ix, q_step, step_list, q_ssc, q_opt0, q_opt1, q_sl, q_call, q_isi, q_tB, q_tVal, q_tNot, q_tAnd, q_tOr, q_tYes, q_chain, q_seq, q_range1, v_dict, frzS_nil, frzS_cons, fz1_d, fz1_o, fz1_n, q_join, q_split, q_dec, dec_str, tup_rl, f_str, f_tuple, f_int, out_retS, stv_list, r_newK, it_k, th_k, hd_k, fz_k, fz1_k, list_k, q_inT, q_getT, it_int, it_str, gt_str, any_int, r_star, stv_tup, q_zip, sq_list, sq_tup, q_range2, r2_int, sl_tup, q_inT, q_getT, it_int, it_str, gt_str, any_int, r_star, stv_tup, q_zip, sq_list, sq_tup, q_range2, r2_int, sl_tup, v_list, v_listF, v_int, v_bool, v_str, v_none, v_tup, aft_t, aft_f, mk_no, mk_yes, mk_call, ret_list, ret_no, ret_int, ret_bool, ret_str, ret_none, ret_tup, retSv_own, retSv_d, o_add, o_sub, o_mul, o_fdiv, o_mod, o_pow, o_lt, o_le, o_gt, o_ge, o_eqI, o_neI, o_eqB, o_neB, o_addL, b_bool, x_list, x_tup, at0, at1, at2, at3, at4, at5, at6, at7, at_last, atN, len_l, len_t, len_s, max_r, min_r, list_r, f_len, f_list, f_max, f_min, f_sorted, f_sum, f_any, out_ret, out_retB, out_retL, out_retT, th_d, th_o, th_n, hd_d, hd_o, hd_n, thawS_nil, thawS_cons, hideS_nil, hideS_cons, frzL_nil, frzL_cons, frzAt_eq, fz_own, fz_d, fz_n, fl_int, fl_bool, fl_str, fl_tup, fls_nil, fls_cons, fls_app, fls_ints, tg1, tg2, tx1, tx2, sv_nil, sv_cons, dn_nil, dn_cons, wd_nil, wd_cons, so_list, so_tup, ro_int, ng_int, ap_own, au_int, au_add, au_sub, tv_bool, tv_list, tv_int, Option.bind_some, Option.bind_none, Option.map_some, Option.map_none, Option.getD_some, Option.getD_none, Option.join_some, List.getElem?_cons_zero, List.getElem?_cons_succ, List.set_cons_zero, List.set_cons_succ, List.length_cons, List.length_nil, List.length_map, ite_true, ite_false, if_true, if_false, Bool.and_true, Bool.true_and, Bool.false_eq_true, decide_eq_true_eq, Bool.not_true, Bool.not_false, and_self, and_true, true_and, reduceIte, l2, nin_bw, hb, decide_false, false_and]
theorem r_of_field (one : Int) (fs : List Ft) (hl : fs.length ≤ 1000) (hf : ∀ f ∈ fs, FtOk f) : x_of_field.run [.list (fs.map tD), .int one] = some (.list ((srt (fs.filter (isMine one))).map tD)) := by
  have hlim : fs.length ≤ lim := by rw [lim_eq]; omega
  have hb : (fs.filter (isMine one)).length ≤ fs.length := List.length_filter_le _ _
  have hlc := lcD_map (f := lcTurn (.one 2) [2] (tAnd (tB (eBin .notin (eIx (eVar 2) (eC (.int 1))) (eTup (aCons (eC (.str "bar")) (aCons (eC (.str "walk")) aNil))))) (tB (eBin .eq (eIx (eVar 2) (eC (.int 2))) (eVar 1)))) (eVar 2) F1 [some (.list (fs.map tD)), some (.int one), none]) (g := tD) (h := tD) (p := isMine one) (zs := fs) fun z hz => mine_turn one none _ z (hf z hz)
  have hi := r_in_order (fs.filter (isMine one)) (fun f h => hf f (List.mem_filter.mp h).1) (by omega)
  have hfl : flats ((srt (fs.filter (isMine one))).map tD) = true := fls_map tD_flat _
  rw [R_of_field]
  simp only [s_seq, s_nil, then_nx, then_ret, then_brk, then_ct, r_asg, r_asgT, r_aug, r_app, r_ext, r_ins, r_clr, r_item, r_if, r_for, r_forN, fo_list, q_rev, rv_list, r_ret, r_retV, r_retN, r_brk, r_ct, r_drop, q_var, q_c, q_bin, q_neg, q_not, q_and, q_or, q_if, q_nil, q_cons, q_tup, q_lst, q_ix, q_step, step_list, q_ssc, q_opt0, q_opt1, q_sl, q_call, q_isi, q_tB, q_tVal, q_tNot, q_tAnd, q_tOr, q_tYes, q_chain, q_seq, q_range1, v_dict, frzS_nil, frzS_cons, fz1_d, fz1_o, fz1_n, q_join, q_split, q_dec, dec_str, tup_rl, f_str, f_tuple, f_int, out_retS, stv_list, r_newK, it_k, th_k, hd_k, fz_k, fz1_k, list_k, q_inT, q_getT, it_int, it_str, gt_str, any_int, r_star, stv_tup, q_zip, sq_list, sq_tup, q_range2, r2_int, sl_tup, q_inT, q_getT, it_int, it_str, gt_str, any_int, r_star, stv_tup, q_zip, sq_list, sq_tup, q_range2, r2_int, sl_tup, v_list, v_listF, v_int, v_bool, v_str, v_none, v_tup, aft_t, aft_f, mk_no, mk_yes, mk_call, ret_list, ret_no, ret_int, ret_bool, ret_str, ret_none, ret_tup, retSv_own, retSv_d, o_add, o_sub, o_mul, o_fdiv, o_mod, o_pow, o_lt, o_le, o_gt, o_ge, o_eqI, o_neI, o_eqB, o_neB, o_addL, b_bool, x_list, x_tup, at0, at1, at2, at3, at4, at5, at6, at7, at_last, atN, len_l, len_t, len_s, max_r, min_r, list_r, f_len, f_list, f_max, f_min, f_sorted, f_sum, f_any, out_ret, out_retB, out_retL, out_retT, th_d, th_o, th_n, hd_d, hd_o, hd_n, thawS_nil, thawS_cons, hideS_nil, hideS_cons, frzL_nil, frzL_cons, frzAt_eq, fz_own, fz_d, fz_n, fl_int, fl_bool, fl_str, fl_tup, fls_nil, fls_cons, fls_app, fls_ints, tg1, tg2, tx1, tx2, sv_nil, sv_cons, dn_nil, dn_cons, wd_nil, wd_cons, so_list, so_tup, ro_int, ng_int, ap_own, au_int, au_add, au_sub, tv_bool, tv_list, tv_int, Option.bind_some, Option.bind_none, Option.map_some, Option.map_none, Option.getD_some, Option.getD_none, Option.join_some, List.getElem?_cons_zero, List.getElem?_cons_succ, List.set_cons_zero, List.set_cons_succ, List.length_cons, List.length_nil, List.length_map, ite_true, ite_false, if_true, if_false, Bool.and_true, Bool.true_and, Bool.false_eq_true, decide_eq_true_eq, Bool.not_true, Bool.not_false, and_self, and_true, true_and, reduceIte, D_of_field_0, D_of_field_1, q_lc, hlim, hlc, G_of_field_in_order, hi, fr_in_order]
theorem cut1 {a : D} {r : List D} : cutD (a :: r) (some 1) none = r := by
  unfold cutD HT.sIx
  simp
theorem sh_wl (w : Str) (a : Int) (r : List Int) (h : PyData.strOk w = true) : SeqAt.shaped (.tuple (.str w :: .int a :: r.map PyData.int)) = true := by
  unfold SeqAt.shaped
  simp [PyData.canLay0, PyData.canLayAll0, PyData.depth, PyData.depthAll, h, can_ints, dep_ints]
theorem eq_wl {w : Str} {a b c : Int} {r : List Int} (h : PyData.strOk w = true) : opD .eq (.tuple (.str w :: .int a :: r.map PyData.int)) (.tuple [.str "walk", .int b, .int c]) = some (.bool (decide (w = "walk" ∧ a = b ∧ r = [c]))) := by
  have h2 := sh_wl "walk" b [c] ok_walk9
  have e := eqv_r r [c]
  rw [List.map_cons, List.map_nil] at h2 e
  rw [o_eqD (sh_wl w a r h) h2]
  rw [PyData.eqv, PyData.eqvAll, PyData.eqvAll, e, PyData.eqv, PyData.eqv]
  congr 2
  rw [Bool.eq_iff_iff]
  simp
theorem walk_turn (one other : Int) (x : Option D) (y : D) (f : Ft) (hf : FtOk f) : lcTurn (.one 3) [3] (tB (eBin .eq (eSl (eVar 3) (some (eC (.int 1))) none) (eTup (aCons (eC (.str "walk")) (aCons (eVar 1) (aCons (eVar 2) aNil)))))) (eIx (eVar 3) (eC (.int 0))) F2 [some y, some (.int one), some (.int other), x] (tD f) =
    some (if isWalk one other f = true then some (.int f.day) else none) := by
  rw [q_turn]
  unfold tD isWalk
  have l3 : (3 : Nat) ≤ lim := by rw [lim_eq]; omega
  by_cases hb : f.w = "walk" ∧ f.a = one ∧ f.r = [other]
  · simp only [s_seq, s_nil, then_nx, then_ret, then_brk, then_ct, r_asg, r_asgT, r_aug, r_app, r_ext, r_ins, r_clr, r_item, r_if, r_for, r_forN, fo_list, q_rev, rv_list, r_ret, r_retV, r_retN, r_brk, r_ct, r_drop, q_var, q_c, q_bin, q_neg, q_not, q_and, q_or, q_if, q_nil, q_cons, q_tup, q_lst, q_ix, q_step, step_list, q_ssc, q_opt0, q_opt1, q_sl, q_call, q_isi, q_tB, q_tVal, q_tNot, q_tAnd, q_tOr, q_tYes, q_chain, q_seq, q_range1, v_dict, frzS_nil, frzS_cons, fz1_d, fz1_o, fz1_n, q_join, q_split, q_dec, dec_str, tup_rl, f_str, f_tuple, f_int, out_retS, stv_list, r_newK, it_k, th_k, hd_k, fz_k, fz1_k, list_k, q_inT, q_getT, it_int, it_str, gt_str, any_int, r_star, stv_tup, q_zip, sq_list, sq_tup, q_range2, r2_int, sl_tup, q_inT, q_getT, it_int, it_str, gt_str, any_int, r_star, stv_tup, q_zip, sq_list, sq_tup, q_range2, r2_int, sl_tup, v_list, v_listF, v_int, v_bool, v_str, v_none, v_tup, aft_t, aft_f, mk_no, mk_yes, mk_call, ret_list, ret_no, ret_int, ret_bool, ret_str, ret_none, ret_tup, retSv_own, retSv_d, o_add, o_sub, o_mul, o_fdiv, o_mod, o_pow, o_lt, o_le, o_gt, o_ge, o_eqI, o_neI, o_eqB, o_neB, o_addL, b_bool, x_list, x_tup, at0, at1, at2, at3, at4, at5, at6, at7, at_last, atN, len_l, len_t, len_s, max_r, min_r, list_r, f_len, f_list, f_max, f_min, f_sorted, f_sum, f_any, out_ret, out_retB, out_retL, out_retT, th_d, th_o, th_n, hd_d, hd_o, hd_n, thawS_nil, thawS_cons, hideS_nil, hideS_cons, frzL_nil, frzL_cons, frzAt_eq, fz_own, fz_d, fz_n, fl_int, fl_bool, fl_str, fl_tup, fls_nil, fls_cons, fls_app, fls_ints, tg1, tg2, tx1, tx2, sv_nil, sv_cons, dn_nil, dn_cons, wd_nil, wd_cons, so_list, so_tup, ro_int, ng_int, ap_own, au_int, au_add, au_sub, tv_bool, tv_list, tv_int, Option.bind_some, Option.bind_none, Option.map_some, Option.map_none, Option.getD_some, Option.getD_none, Option.join_some, List.getElem?_cons_zero, List.getElem?_cons_succ, List.set_cons_zero, List.set_cons_succ, List.length_cons, List.length_nil, List.length_map, ite_true, ite_false, if_true, if_false, Bool.and_true, Bool.true_and, Bool.false_eq_true, decide_eq_true_eq, Bool.not_true, Bool.not_false, and_self, and_true, true_and, reduceIte, int_of, Option.pure_def, Option.bind_eq_bind, l3, cut1, eq_wl hf.ok, hb, decide_true, eq_self, and_self, List.map_cons, List.map_nil]
    have e := eq_wl (w := "walk") (a := one) (b := one) (c := other) (r := [other]) ok_walk9
    rw [List.map_cons, List.map_nil] at e
    simp only [s_seq, s_nil, then_nx, then_ret, then_brk, then_ct, r_asg, r_asgT, r_aug, r_app, r_ext, r_ins, r_clr, r_item, r_if, r_for, r_forN, fo_list, q_rev, rv_list, r_ret, r_retV, r_retN, r_brk, r_ct, r_drop, q_var, q_c, q_bin, q_neg, q_not, q_and, q_or, q_if, q_nil, q_cons, q_tup, q_lst, q_ix, q_step, step_list, q_ssc, q_opt0, q_opt1, q_sl, q_call, q_isi, q_tB, q_tVal, q_tNot, q_tAnd, q_tOr, q_tYes, q_chain, q_seq, q_range1, v_dict, frzS_nil, frzS_cons, fz1_d, fz1_o, fz1_n, q_join, q_split, q_dec, dec_str, tup_rl, f_str, f_tuple, f_int, out_retS, stv_list, r_newK, it_k, th_k, hd_k, fz_k, fz1_k, list_k, q_inT, q_getT, it_int, it_str, gt_str, any_int, r_star, stv_tup, q_zip, sq_list, sq_tup, q_range2, r2_int, sl_tup, q_inT, q_getT, it_int, it_str, gt_str, any_int, r_star, stv_tup, q_zip, sq_list, sq_tup, q_range2, r2_int, sl_tup, v_list, v_listF, v_int, v_bool, v_str, v_none, v_tup, aft_t, aft_f, mk_no, mk_yes, mk_call, ret_list, ret_no, ret_int, ret_bool, ret_str, ret_none, ret_tup, retSv_own, retSv_d, o_add, o_sub, o_mul, o_fdiv, o_mod, o_pow, o_lt, o_le, o_gt, o_ge, o_eqI, o_neI, o_eqB, o_neB, o_addL, b_bool, x_list, x_tup, at0, at1, at2, at3, at4, at5, at6, at7, at_last, atN, len_l, len_t, len_s, max_r, min_r, list_r, f_len, f_list, f_max, f_min, f_sorted, f_sum, f_any, out_ret, out_retB, out_retL, out_retT, th_d, th_o, th_n, hd_d, hd_o, hd_n, thawS_nil, thawS_cons, hideS_nil, hideS_cons, frzL_nil, frzL_cons, frzAt_eq, fz_own, fz_d, fz_n, fl_int, fl_bool, fl_str, fl_tup, fls_nil, fls_cons, fls_app, fls_ints, tg1, tg2, tx1, tx2, sv_nil, sv_cons, dn_nil, dn_cons, wd_nil, wd_cons, so_list, so_tup, ro_int, ng_int, ap_own, au_int, au_add, au_sub, tv_bool, tv_list, tv_int, Option.bind_some, Option.bind_none, Option.map_some, Option.map_none, Option.getD_some, Option.getD_none, Option.join_some, List.getElem?_cons_zero, List.getElem?_cons_succ, List.set_cons_zero, List.set_cons_succ, List.length_cons, List.length_nil, List.length_map, ite_true, ite_false, if_true, if_false, Bool.and_true, Bool.true_and, Bool.false_eq_true, decide_eq_true_eq, Bool.not_true, Bool.not_false, and_self, and_true, true_and, reduceIte, e, eq_self, decide_true, and_self]
  · simp only [s_seq, s_nil, then_nx, then_ret, then_brk, then_ct, r_asg, r_asgT, r_aug, r_app, r_ext, r_ins, r_clr, r_item, r_if, r_for, r_forN, fo_list, q_rev, rv_list, r_ret, r_retV, r_retN, r_brk, r_ct, r_drop, q_var, q_c, q_bin, q_neg, q_not, q_and, q_or, q_if, q_nil, q_cons, q_tup, q_lst, q_ix, q_step, step_list, q_ssc, q_opt0, q_opt1, q_sl, q_call, q_isi, q_tB, q_tVal, q_tNot, q_tAnd, q_tOr, q_tYes, q_chain, q_seq, q_range1, v_dict, frzS_nil, frzS_cons, fz1_d, fz1_o, fz1_n, q_join, q_split, q_dec, dec_str, tup_rl, f_str, f_tuple, f_int, out_retS, stv_list, r_newK, it_k, th_k, hd_k, fz_k, fz1_k, list_k, q_inT, q_getT, it_int, it_str, gt_str, any_int, r_star, stv_tup, q_zip, sq_list, sq_tup, q_range2, r2_int, sl_tup, q_inT, q_getT, it_int, it_str, gt_str, any_int, r_star, stv_tup, q_zip, sq_list, sq_tup, q_range2, r2_int, sl_tup, v_list, v_listF, v_int, v_bool, v_str, v_none, v_tup, aft_t, aft_f, mk_no, mk_yes, mk_call, ret_list, ret_no, ret_int, ret_bool, ret_str, ret_none, ret_tup, retSv_own, retSv_d, o_add, o_sub, o_mul, o_fdiv, o_mod, o_pow, o_lt, o_le, o_gt, o_ge, o_eqI, o_neI, o_eqB, o_neB, o_addL, b_bool, x_list, x_tup, at0, at1, at2, at3, at4, at5, at6, at7, at_last, atN, len_l, len_t, len_s, max_r, min_r, list_r, f_len, f_list, f_max, f_min, f_sorted, f_sum, f_any, out_ret, out_retB, out_retL, out_retT, th_d, th_o, th_n, hd_d, hd_o, hd_n, thawS_nil, thawS_cons, hideS_nil, hideS_cons, frzL_nil, frzL_cons, frzAt_eq, fz_own, fz_d, fz_n, fl_int, fl_bool, fl_str, fl_tup, fls_nil, fls_cons, fls_app, fls_ints, tg1, tg2, tx1, tx2, sv_nil, sv_cons, dn_nil, dn_cons, wd_nil, wd_cons, so_list, so_tup, ro_int, ng_int, ap_own, au_int, au_add, au_sub, tv_bool, tv_list, tv_int, Option.bind_some, Option.bind_none, Option.map_some, Option.map_none, Option.getD_some, Option.getD_none, Option.join_some, List.getElem?_cons_zero, List.getElem?_cons_succ, List.set_cons_zero, List.set_cons_succ, List.length_cons, List.length_nil, List.length_map, ite_true, ite_false, if_true, if_false, Bool.and_true, Bool.true_and, Bool.false_eq_true, decide_eq_true_eq, Bool.not_true, Bool.not_false, and_self, and_true, true_and, reduceIte, int_of, Option.pure_def, Option.bind_eq_bind, l3, cut1, eq_wl hf.ok, hb, decide_false]
theorem r_walks (one other : Int) (fs : List Ft) (hl : fs.length < 64) (hf : ∀ f ∈ fs, FtOk f) : x_walks.run [.list (fs.map tD), .int one, .int other] = some (.list ((nubS ((fs.filter (isWalk one other)).map (·.day))).map PyData.int)) := by
  have hlim : fs.length ≤ 2000 := by omega
  have hb : (fs.filter (isWalk one other)).length ≤ fs.length := List.length_filter_le _ _
  have hlc := lcD_map (f := lcTurn (.one 3) [3] (tB (eBin .eq (eSl (eVar 3) (some (eC (.int 1))) none) (eTup (aCons (eC (.str "walk")) (aCons (eVar 1) (aCons (eVar 2) aNil)))))) (eIx (eVar 3) (eC (.int 0))) F2 [some (.list (fs.map tD)), some (.int one), some (.int other), none]) (g := tD) (h := fun f => PyData.int f.day) (p := isWalk one other) (zs := fs) fun z hz => walk_turn one other none _ z (hf z hz)
  have e2 : (fs.filter (isWalk one other)).map (fun f => PyData.int f.day) = ((fs.filter (isWalk one other)).map (·.day)).map PyData.int := by
    rw [List.map_map]
    rfl
  rw [e2] at hlc
  have hs := sortU_ints (zs := (fs.filter (isWalk one other)).map (·.day)) (by rw [List.length_map]; omega)
  have f_s : semSorted.fresh = true := rfl
  rw [R_walks]
  simp only [s_seq, s_nil, then_nx, then_ret, then_brk, then_ct, r_asg, r_asgT, r_aug, r_app, r_ext, r_ins, r_clr, r_item, r_if, r_for, r_forN, fo_list, q_rev, rv_list, r_ret, r_retV, r_retN, r_brk, r_ct, r_drop, q_var, q_c, q_bin, q_neg, q_not, q_and, q_or, q_if, q_nil, q_cons, q_tup, q_lst, q_ix, q_step, step_list, q_ssc, q_opt0, q_opt1, q_sl, q_call, q_isi, q_tB, q_tVal, q_tNot, q_tAnd, q_tOr, q_tYes, q_chain, q_seq, q_range1, v_dict, frzS_nil, frzS_cons, fz1_d, fz1_o, fz1_n, q_join, q_split, q_dec, dec_str, tup_rl, f_str, f_tuple, f_int, out_retS, stv_list, r_newK, it_k, th_k, hd_k, fz_k, fz1_k, list_k, q_inT, q_getT, it_int, it_str, gt_str, any_int, r_star, stv_tup, q_zip, sq_list, sq_tup, q_range2, r2_int, sl_tup, q_inT, q_getT, it_int, it_str, gt_str, any_int, r_star, stv_tup, q_zip, sq_list, sq_tup, q_range2, r2_int, sl_tup, v_list, v_listF, v_int, v_bool, v_str, v_none, v_tup, aft_t, aft_f, mk_no, mk_yes, mk_call, ret_list, ret_no, ret_int, ret_bool, ret_str, ret_none, ret_tup, retSv_own, retSv_d, o_add, o_sub, o_mul, o_fdiv, o_mod, o_pow, o_lt, o_le, o_gt, o_ge, o_eqI, o_neI, o_eqB, o_neB, o_addL, b_bool, x_list, x_tup, at0, at1, at2, at3, at4, at5, at6, at7, at_last, atN, len_l, len_t, len_s, max_r, min_r, list_r, f_len, f_list, f_max, f_min, f_sorted, f_sum, f_any, out_ret, out_retB, out_retL, out_retT, th_d, th_o, th_n, hd_d, hd_o, hd_n, thawS_nil, thawS_cons, hideS_nil, hideS_cons, frzL_nil, frzL_cons, frzAt_eq, fz_own, fz_d, fz_n, fl_int, fl_bool, fl_str, fl_tup, fls_nil, fls_cons, fls_app, fls_ints, tg1, tg2, tx1, tx2, sv_nil, sv_cons, dn_nil, dn_cons, wd_nil, wd_cons, so_list, so_tup, ro_int, ng_int, ap_own, au_int, au_add, au_sub, tv_bool, tv_list, tv_int, Option.bind_some, Option.bind_none, Option.map_some, Option.map_none, Option.getD_some, Option.getD_none, Option.join_some, List.getElem?_cons_zero, List.getElem?_cons_succ, List.set_cons_zero, List.set_cons_succ, List.length_cons, List.length_nil, List.length_map, ite_true, ite_false, if_true, if_false, Bool.and_true, Bool.true_and, Bool.false_eq_true, decide_eq_true_eq, Bool.not_true, Bool.not_false, and_self, and_true, true_and, reduceIte, D_walks_0, D_walks_1, hlim, hlc, hs, G_walks_sorted, f_s]
/-! ### numbers written -/
def nT (n : Int) : Str := Str.ofString (toString n)
structure NumOk (n : Int) : Prop where
  len : (nT n).length ≤ 5
  dec : Txt.isdecimal (nT n) = true
  back : PySem.intText? (nT n) = some n
  ok : PyData.strOk (nT n) = true
  free : 32 ∉ (nT n).cps.toList
  log : n.natAbs.log2 < 1920
theorem num_ok {n : Int} (h0 : 0 ≤ n) (h1 : n ≤ 10000) : NumOk n := by
  have hd : ∀ c ∈ (nT n).cps.toList, 48 ≤ c ∧ c ≤ 57 := by
    intro c hc
    obtain ⟨m, rfl⟩ := Int.eq_ofNat_of_zero_le h0
    unfold nT at hc
    rw [PySem.W.KIN.signs_num] at hc
    obtain ⟨ch, hch, e⟩ := List.mem_map.mp hc
    have r := digit_range (Nat.isDigit_of_mem_toDigits (by decide) (by decide) hch)
    rw [← e]
    exact r
  have hb : PySem.intText? (nT n) = some n := PySem.W.KIN.num_reads h0 (by omega)
  have hpos : 0 < (nT n).cps.toList.length := by
    obtain ⟨m, rfl⟩ := Int.eq_ofNat_of_zero_le h0
    unfold nT
    rw [PySem.W.KIN.signs_num, List.length_map]
    exact Nat.length_toDigits_pos
  refine ⟨toString_length_le h0 (by decide) (by omega), ?_, hb, ?_, fun h => ?_, ?_⟩
  · unfold Txt.isdecimal
    rw [Bool.and_eq_true]
    refine ⟨decide_eq_true (by simpa [Str.length] using hpos), ?_⟩
    rw [← Array.all_toList, List.all_eq_true]
    intro c hc
    have z : ∀ c : Nat, c < 58 → 48 ≤ c → Unicode.isDecimal c = true := by decide +kernel
    exact z c (by have := hd c hc; omega) (hd c hc).1
  · unfold PyData.strOk
    rw [← Array.all_toList, List.all_eq_true]
    intro c hc
    have := hd c hc
    exact decide_eq_true (by omega)
  · have := hd 32 h
    omega
  · have : n.natAbs < 2 ^ 1920 := Nat.lt_of_le_of_lt (show n.natAbs ≤ 10000 by omega) (by decide +kernel)
    by_cases hz : n.natAbs = 0
    · rw [hz]
      decide
    · exact (Nat.log2_lt hz).mpr this
/-! ### alike -/
theorem r_whole (n : Int) : x_whole.run [.int n] = some (.bool true) := by
  rw [R_whole]
  simp only [s_seq, s_nil, then_nx, then_ret, then_brk, then_ct, r_asg, r_asgT, r_aug, r_app, r_ext, r_ins, r_clr, r_item, r_if, r_for, r_forN, fo_list, q_rev, rv_list, r_ret, r_retV, r_retN, r_brk, r_ct, r_drop, q_var, q_c, q_bin, q_neg, q_not, q_and, q_or, q_if, q_nil, q_cons, q_tup, q_lst, q_ix, q_step, step_list, q_ssc, q_opt0, q_opt1, q_sl, q_call, q_isi, q_tB, q_tVal, q_tNot, q_tAnd, q_tOr, q_tYes, q_chain, q_seq, q_range1, v_dict, frzS_nil, frzS_cons, fz1_d, fz1_o, fz1_n, q_join, q_split, q_dec, dec_str, tup_rl, f_str, f_tuple, f_int, out_retS, stv_list, r_newK, it_k, th_k, hd_k, fz_k, fz1_k, list_k, q_inT, q_getT, it_int, it_str, gt_str, any_int, r_star, stv_tup, q_zip, sq_list, sq_tup, q_range2, r2_int, sl_tup, q_inT, q_getT, it_int, it_str, gt_str, any_int, r_star, stv_tup, q_zip, sq_list, sq_tup, q_range2, r2_int, sl_tup, v_list, v_listF, v_int, v_bool, v_str, v_none, v_tup, aft_t, aft_f, mk_no, mk_yes, mk_call, ret_list, ret_no, ret_int, ret_bool, ret_str, ret_none, ret_tup, retSv_own, retSv_d, o_add, o_sub, o_mul, o_fdiv, o_mod, o_pow, o_lt, o_le, o_gt, o_ge, o_eqI, o_neI, o_eqB, o_neB, o_addL, b_bool, x_list, x_tup, at0, at1, at2, at3, at4, at5, at6, at7, at_last, atN, len_l, len_t, len_s, max_r, min_r, list_r, f_len, f_list, f_max, f_min, f_sorted, f_sum, f_any, out_ret, out_retB, out_retL, out_retT, th_d, th_o, th_n, hd_d, hd_o, hd_n, thawS_nil, thawS_cons, hideS_nil, hideS_cons, frzL_nil, frzL_cons, frzAt_eq, fz_own, fz_d, fz_n, fl_int, fl_bool, fl_str, fl_tup, fls_nil, fls_cons, fls_app, fls_ints, tg1, tg2, tx1, tx2, sv_nil, sv_cons, dn_nil, dn_cons, wd_nil, wd_cons, so_list, so_tup, ro_int, ng_int, ap_own, au_int, au_add, au_sub, tv_bool, tv_list, tv_int, Option.bind_some, Option.bind_none, Option.map_some, Option.map_none, Option.getD_some, Option.getD_none, Option.join_some, List.getElem?_cons_zero, List.getElem?_cons_succ, List.set_cons_zero, List.set_cons_succ, List.length_cons, List.length_nil, List.length_map, ite_true, ite_false, if_true, if_false, Bool.and_true, Bool.true_and, Bool.false_eq_true, decide_eq_true_eq, Bool.not_true, Bool.not_false, and_self, and_true, true_and, reduceIte, D_whole_0, D_whole_1, isi2, isiD]
theorem is_int {n : Int} : opD .is_ (.int n) .none = some (.bool false) := rfl
theorem is_str {z : Str} : opD .is_ (.str z) .none = some (.bool false) := rfl
theorem is_tup {z : List D} : opD .is_ (.tuple z) .none = some (.bool false) := rfl
theorem is_lst {z : List D} : opD .is_ (.list z) .none = some (.bool false) := rfl
theorem like_atom (F : List Sem1) (hw : F[9]? = some x_whole) {d : D} (h : plain d = true) : d_like_0 F [some (.d d), some (.d d), none, none] = some (.ret (.bool true) false) := by
  rcases plain_inv h with ⟨i, rfl⟩ | ⟨z, rfl, hz⟩
  · simp only [s_seq, s_nil, then_nx, then_ret, then_brk, then_ct, r_asg, r_asgT, r_aug, r_app, r_ext, r_ins, r_clr, r_item, r_if, r_for, r_forN, fo_list, q_rev, rv_list, r_ret, r_retV, r_retN, r_brk, r_ct, r_drop, q_var, q_c, q_bin, q_neg, q_not, q_and, q_or, q_if, q_nil, q_cons, q_tup, q_lst, q_ix, q_step, step_list, q_ssc, q_opt0, q_opt1, q_sl, q_call, q_isi, q_tB, q_tVal, q_tNot, q_tAnd, q_tOr, q_tYes, q_chain, q_seq, q_range1, v_dict, frzS_nil, frzS_cons, fz1_d, fz1_o, fz1_n, q_join, q_split, q_dec, dec_str, tup_rl, f_str, f_tuple, f_int, out_retS, stv_list, r_newK, it_k, th_k, hd_k, fz_k, fz1_k, list_k, q_inT, q_getT, it_int, it_str, gt_str, any_int, r_star, stv_tup, q_zip, sq_list, sq_tup, q_range2, r2_int, sl_tup, q_inT, q_getT, it_int, it_str, gt_str, any_int, r_star, stv_tup, q_zip, sq_list, sq_tup, q_range2, r2_int, sl_tup, v_list, v_listF, v_int, v_bool, v_str, v_none, v_tup, aft_t, aft_f, mk_no, mk_yes, mk_call, ret_list, ret_no, ret_int, ret_bool, ret_str, ret_none, ret_tup, retSv_own, retSv_d, o_add, o_sub, o_mul, o_fdiv, o_mod, o_pow, o_lt, o_le, o_gt, o_ge, o_eqI, o_neI, o_eqB, o_neB, o_addL, b_bool, x_list, x_tup, at0, at1, at2, at3, at4, at5, at6, at7, at_last, atN, len_l, len_t, len_s, max_r, min_r, list_r, f_len, f_list, f_max, f_min, f_sorted, f_sum, f_any, out_ret, out_retB, out_retL, out_retT, th_d, th_o, th_n, hd_d, hd_o, hd_n, thawS_nil, thawS_cons, hideS_nil, hideS_cons, frzL_nil, frzL_cons, frzAt_eq, fz_own, fz_d, fz_n, fl_int, fl_bool, fl_str, fl_tup, fls_nil, fls_cons, fls_app, fls_ints, tg1, tg2, tx1, tx2, sv_nil, sv_cons, dn_nil, dn_cons, wd_nil, wd_cons, so_list, so_tup, ro_int, ng_int, ap_own, au_int, au_add, au_sub, tv_bool, tv_list, tv_int, Option.bind_some, Option.bind_none, Option.map_some, Option.map_none, Option.getD_some, Option.getD_none, Option.join_some, List.getElem?_cons_zero, List.getElem?_cons_succ, List.set_cons_zero, List.set_cons_succ, List.length_cons, List.length_nil, List.length_map, ite_true, ite_false, if_true, if_false, Bool.and_true, Bool.true_and, Bool.false_eq_true, decide_eq_true_eq, Bool.not_true, Bool.not_false, and_self, and_true, true_and, reduceIte, D_like_0, D_like_1, D_like_2, D_like_3, D_like_4, D_like_5, D_like_6, D_like_7, D_like_8, is_int, isi2, isiD, hw, r_whole, eq_self, decide_true]
  · simp only [s_seq, s_nil, then_nx, then_ret, then_brk, then_ct, r_asg, r_asgT, r_aug, r_app, r_ext, r_ins, r_clr, r_item, r_if, r_for, r_forN, fo_list, q_rev, rv_list, r_ret, r_retV, r_retN, r_brk, r_ct, r_drop, q_var, q_c, q_bin, q_neg, q_not, q_and, q_or, q_if, q_nil, q_cons, q_tup, q_lst, q_ix, q_step, step_list, q_ssc, q_opt0, q_opt1, q_sl, q_call, q_isi, q_tB, q_tVal, q_tNot, q_tAnd, q_tOr, q_tYes, q_chain, q_seq, q_range1, v_dict, frzS_nil, frzS_cons, fz1_d, fz1_o, fz1_n, q_join, q_split, q_dec, dec_str, tup_rl, f_str, f_tuple, f_int, out_retS, stv_list, r_newK, it_k, th_k, hd_k, fz_k, fz1_k, list_k, q_inT, q_getT, it_int, it_str, gt_str, any_int, r_star, stv_tup, q_zip, sq_list, sq_tup, q_range2, r2_int, sl_tup, q_inT, q_getT, it_int, it_str, gt_str, any_int, r_star, stv_tup, q_zip, sq_list, sq_tup, q_range2, r2_int, sl_tup, v_list, v_listF, v_int, v_bool, v_str, v_none, v_tup, aft_t, aft_f, mk_no, mk_yes, mk_call, ret_list, ret_no, ret_int, ret_bool, ret_str, ret_none, ret_tup, retSv_own, retSv_d, o_add, o_sub, o_mul, o_fdiv, o_mod, o_pow, o_lt, o_le, o_gt, o_ge, o_eqI, o_neI, o_eqB, o_neB, o_addL, b_bool, x_list, x_tup, at0, at1, at2, at3, at4, at5, at6, at7, at_last, atN, len_l, len_t, len_s, max_r, min_r, list_r, f_len, f_list, f_max, f_min, f_sorted, f_sum, f_any, out_ret, out_retB, out_retL, out_retT, th_d, th_o, th_n, hd_d, hd_o, hd_n, thawS_nil, thawS_cons, hideS_nil, hideS_cons, frzL_nil, frzL_cons, frzAt_eq, fz_own, fz_d, fz_n, fl_int, fl_bool, fl_str, fl_tup, fls_nil, fls_cons, fls_app, fls_ints, tg1, tg2, tx1, tx2, sv_nil, sv_cons, dn_nil, dn_cons, wd_nil, wd_cons, so_list, so_tup, ro_int, ng_int, ap_own, au_int, au_add, au_sub, tv_bool, tv_list, tv_int, Option.bind_some, Option.bind_none, Option.map_some, Option.map_none, Option.getD_some, Option.getD_none, Option.join_some, List.getElem?_cons_zero, List.getElem?_cons_succ, List.set_cons_zero, List.set_cons_succ, List.length_cons, List.length_nil, List.length_map, ite_true, ite_false, if_true, if_false, Bool.and_true, Bool.true_and, Bool.false_eq_true, decide_eq_true_eq, Bool.not_true, Bool.not_false, and_self, and_true, true_and, reduceIte, D_like_0, D_like_1, D_like_2, D_like_3, D_like_4, D_like_5, D_like_6, D_like_7, D_like_8, is_str, isi2, isiD, o_eqS hz hz, eq_self, decide_true]
theorem like_loop (F : List Sem1) (s : Sem1) (hs : F[10]? = some s) (x0 x1 : Option Sv) : ∀ (xs : List D) (x2 x3 : Option Sv), (∀ x ∈ xs, s.run [x, x] = some (.bool true)) →
    ∃ x2' x3', forD (b_like_0 F) (.tup [2, 3]) ((xs.zip xs).map fun p => .tuple [p.1, p.2]) [x0, x1, x2, x3] = some (.nx [x0, x1, x2', x3'])
  | [], x2, x3, _ => ⟨x2, x3, rfl⟩
  | x :: xs, x2, x3, h => by
    obtain ⟨x2', x3', ih⟩ := like_loop F s hs x0 x1 xs (some (.d x)) (some (.d x)) fun y hy => h y (List.mem_cons_of_mem _ hy)
    refine ⟨x2', x3', ?_⟩
    rw [List.zip_cons_cons, List.map_cons, forD, ← ih]
    have hb : b_like_0 F [x0, x1, some (.d x), some (.d x)] = some (.nx [x0, x1, some (.d x), some (.d x)]) := by
      simp only [s_seq, s_nil, then_nx, then_ret, then_brk, then_ct, r_asg, r_asgT, r_aug, r_app, r_ext, r_ins, r_clr, r_item, r_if, r_for, r_forN, fo_list, q_rev, rv_list, r_ret, r_retV, r_retN, r_brk, r_ct, r_drop, q_var, q_c, q_bin, q_neg, q_not, q_and, q_or, q_if, q_nil, q_cons, q_tup, q_lst, q_ix, q_step, step_list, q_ssc, q_opt0, q_opt1, q_sl, q_call, q_isi, q_tB, q_tVal, q_tNot, q_tAnd, q_tOr, q_tYes, q_chain, q_seq, q_range1, v_dict, frzS_nil, frzS_cons, fz1_d, fz1_o, fz1_n, q_join, q_split, q_dec, dec_str, tup_rl, f_str, f_tuple, f_int, out_retS, stv_list, r_newK, it_k, th_k, hd_k, fz_k, fz1_k, list_k, q_inT, q_getT, it_int, it_str, gt_str, any_int, r_star, stv_tup, q_zip, sq_list, sq_tup, q_range2, r2_int, sl_tup, q_inT, q_getT, it_int, it_str, gt_str, any_int, r_star, stv_tup, q_zip, sq_list, sq_tup, q_range2, r2_int, sl_tup, v_list, v_listF, v_int, v_bool, v_str, v_none, v_tup, aft_t, aft_f, mk_no, mk_yes, mk_call, ret_list, ret_no, ret_int, ret_bool, ret_str, ret_none, ret_tup, retSv_own, retSv_d, o_add, o_sub, o_mul, o_fdiv, o_mod, o_pow, o_lt, o_le, o_gt, o_ge, o_eqI, o_neI, o_eqB, o_neB, o_addL, b_bool, x_list, x_tup, at0, at1, at2, at3, at4, at5, at6, at7, at_last, atN, len_l, len_t, len_s, max_r, min_r, list_r, f_len, f_list, f_max, f_min, f_sorted, f_sum, f_any, out_ret, out_retB, out_retL, out_retT, th_d, th_o, th_n, hd_d, hd_o, hd_n, thawS_nil, thawS_cons, hideS_nil, hideS_cons, frzL_nil, frzL_cons, frzAt_eq, fz_own, fz_d, fz_n, fl_int, fl_bool, fl_str, fl_tup, fls_nil, fls_cons, fls_app, fls_ints, tg1, tg2, tx1, tx2, sv_nil, sv_cons, dn_nil, dn_cons, wd_nil, wd_cons, so_list, so_tup, ro_int, ng_int, ap_own, au_int, au_add, au_sub, tv_bool, tv_list, tv_int, Option.bind_some, Option.bind_none, Option.map_some, Option.map_none, Option.getD_some, Option.getD_none, Option.join_some, List.getElem?_cons_zero, List.getElem?_cons_succ, List.set_cons_zero, List.set_cons_succ, List.length_cons, List.length_nil, List.length_map, ite_true, ite_false, if_true, if_false, Bool.and_true, Bool.true_and, Bool.false_eq_true, decide_eq_true_eq, Bool.not_true, Bool.not_false, and_self, and_true, true_and, reduceIte, B_like_0, hs, h x List.mem_cons_self]
    show (match b_like_0 F [x0, x1, some (.d x), some (.d x)] with | some (.nx e) => _ | some (.ct e) => _ | some (.brk e) => _ | some (.ret d fr) => _ | none => none) = _
    rw [hb]
theorem like_tup (F : List Sem1) (s : Sem1) (hs : F[10]? = some s) (hl : F[0]? = some semLen) (xs : List D) (h : ∀ x ∈ xs, s.run [x, x] = some (.bool true)) : d_like_0 F [some (.d (.tuple xs)), some (.d (.tuple xs)), none, none] = some (.ret (.bool true) false) := by
  obtain ⟨x2', x3', e⟩ := like_loop F s hs (some (.d (.tuple xs))) (some (.d (.tuple xs))) xs none none h
  simp only [s_seq, s_nil, then_nx, then_ret, then_brk, then_ct, r_asg, r_asgT, r_aug, r_app, r_ext, r_ins, r_clr, r_item, r_if, r_for, r_forN, fo_list, q_rev, rv_list, r_ret, r_retV, r_retN, r_brk, r_ct, r_drop, q_var, q_c, q_bin, q_neg, q_not, q_and, q_or, q_if, q_nil, q_cons, q_tup, q_lst, q_ix, q_step, step_list, q_ssc, q_opt0, q_opt1, q_sl, q_call, q_isi, q_tB, q_tVal, q_tNot, q_tAnd, q_tOr, q_tYes, q_chain, q_seq, q_range1, v_dict, frzS_nil, frzS_cons, fz1_d, fz1_o, fz1_n, q_join, q_split, q_dec, dec_str, tup_rl, f_str, f_tuple, f_int, out_retS, stv_list, r_newK, it_k, th_k, hd_k, fz_k, fz1_k, list_k, q_inT, q_getT, it_int, it_str, gt_str, any_int, r_star, stv_tup, q_zip, sq_list, sq_tup, q_range2, r2_int, sl_tup, q_inT, q_getT, it_int, it_str, gt_str, any_int, r_star, stv_tup, q_zip, sq_list, sq_tup, q_range2, r2_int, sl_tup, v_list, v_listF, v_int, v_bool, v_str, v_none, v_tup, aft_t, aft_f, mk_no, mk_yes, mk_call, ret_list, ret_no, ret_int, ret_bool, ret_str, ret_none, ret_tup, retSv_own, retSv_d, o_add, o_sub, o_mul, o_fdiv, o_mod, o_pow, o_lt, o_le, o_gt, o_ge, o_eqI, o_neI, o_eqB, o_neB, o_addL, b_bool, x_list, x_tup, at0, at1, at2, at3, at4, at5, at6, at7, at_last, atN, len_l, len_t, len_s, max_r, min_r, list_r, f_len, f_list, f_max, f_min, f_sorted, f_sum, f_any, out_ret, out_retB, out_retL, out_retT, th_d, th_o, th_n, hd_d, hd_o, hd_n, thawS_nil, thawS_cons, hideS_nil, hideS_cons, frzL_nil, frzL_cons, frzAt_eq, fz_own, fz_d, fz_n, fl_int, fl_bool, fl_str, fl_tup, fls_nil, fls_cons, fls_app, fls_ints, tg1, tg2, tx1, tx2, sv_nil, sv_cons, dn_nil, dn_cons, wd_nil, wd_cons, so_list, so_tup, ro_int, ng_int, ap_own, au_int, au_add, au_sub, tv_bool, tv_list, tv_int, Option.bind_some, Option.bind_none, Option.map_some, Option.map_none, Option.getD_some, Option.getD_none, Option.join_some, List.getElem?_cons_zero, List.getElem?_cons_succ, List.set_cons_zero, List.set_cons_succ, List.length_cons, List.length_nil, List.length_map, ite_true, ite_false, if_true, if_false, Bool.and_true, Bool.true_and, Bool.false_eq_true, decide_eq_true_eq, Bool.not_true, Bool.not_false, and_self, and_true, true_and, reduceIte, D_like_0, D_like_1, D_like_2, D_like_3, D_like_4, D_like_5, is_tup, isi2, isiD, beq_self_eq_true, hl, eq_self, decide_true]
  simp only [s_seq, s_nil, then_nx, then_ret, then_brk, then_ct, r_asg, r_asgT, r_aug, r_app, r_ext, r_ins, r_clr, r_item, r_if, r_for, r_forN, fo_list, q_rev, rv_list, r_ret, r_retV, r_retN, r_brk, r_ct, r_drop, q_var, q_c, q_bin, q_neg, q_not, q_and, q_or, q_if, q_nil, q_cons, q_tup, q_lst, q_ix, q_step, step_list, q_ssc, q_opt0, q_opt1, q_sl, q_call, q_isi, q_tB, q_tVal, q_tNot, q_tAnd, q_tOr, q_tYes, q_chain, q_seq, q_range1, v_dict, frzS_nil, frzS_cons, fz1_d, fz1_o, fz1_n, q_join, q_split, q_dec, dec_str, tup_rl, f_str, f_tuple, f_int, out_retS, stv_list, r_newK, it_k, th_k, hd_k, fz_k, fz1_k, list_k, q_inT, q_getT, it_int, it_str, gt_str, any_int, r_star, stv_tup, q_zip, sq_list, sq_tup, q_range2, r2_int, sl_tup, q_inT, q_getT, it_int, it_str, gt_str, any_int, r_star, stv_tup, q_zip, sq_list, sq_tup, q_range2, r2_int, sl_tup, v_list, v_listF, v_int, v_bool, v_str, v_none, v_tup, aft_t, aft_f, mk_no, mk_yes, mk_call, ret_list, ret_no, ret_int, ret_bool, ret_str, ret_none, ret_tup, retSv_own, retSv_d, o_add, o_sub, o_mul, o_fdiv, o_mod, o_pow, o_lt, o_le, o_gt, o_ge, o_eqI, o_neI, o_eqB, o_neB, o_addL, b_bool, x_list, x_tup, at0, at1, at2, at3, at4, at5, at6, at7, at_last, atN, len_l, len_t, len_s, max_r, min_r, list_r, f_len, f_list, f_max, f_min, f_sorted, f_sum, f_any, out_ret, out_retB, out_retL, out_retT, th_d, th_o, th_n, hd_d, hd_o, hd_n, thawS_nil, thawS_cons, hideS_nil, hideS_cons, frzL_nil, frzL_cons, frzAt_eq, fz_own, fz_d, fz_n, fl_int, fl_bool, fl_str, fl_tup, fls_nil, fls_cons, fls_app, fls_ints, tg1, tg2, tx1, tx2, sv_nil, sv_cons, dn_nil, dn_cons, wd_nil, wd_cons, so_list, so_tup, ro_int, ng_int, ap_own, au_int, au_add, au_sub, tv_bool, tv_list, tv_int, Option.bind_some, Option.bind_none, Option.map_some, Option.map_none, Option.getD_some, Option.getD_none, Option.join_some, List.getElem?_cons_zero, List.getElem?_cons_succ, List.set_cons_zero, List.set_cons_succ, List.length_cons, List.length_nil, List.length_map, ite_true, ite_false, if_true, if_false, Bool.and_true, Bool.true_and, Bool.false_eq_true, decide_eq_true_eq, Bool.not_true, Bool.not_false, and_self, and_true, true_and, reduceIte, D_like_6, D_like_7, e]
/-! ### folk, one by one -/
theorem step_at {p : Int} (h0 : 0 ≤ p) (h1 : p < 5) : ∃ s : Int, (s = 1 ∨ s = 100 ∨ s = 331 ∨ s = 500 ∨ s = 998) ∧ atI [PyData.int 1, .int 100, .int 331, .int 500, .int 998] p = some (.int s) := by
  have h : p = 0 ∨ p = 1 ∨ p = 2 ∨ p = 3 ∨ p = 4 := by omega
  rcases h with rfl | rfl | rfl | rfl | rfl
  · exact ⟨1, by omega, at0⟩
  · exact ⟨100, by omega, at1⟩
  · exact ⟨331, by omega, at2⟩
  · exact ⟨500, by omega, at3⟩
  · exact ⟨998, by omega, at4⟩
def folkL (start s : Int) (m : Nat) : List Int := (List.range' 0 m).map fun i : Nat => 1 + (start + (0 + (i : Int)) * s) % 999
theorem folkL_len (start s : Int) (m : Nat) : (folkL start s m).length = m := by
  unfold folkL
  rw [List.length_map, List.length_range']
theorem folk_ne {start s : Int} (hs : s = 1 ∨ s = 100 ∨ s = 331 ∨ s = 500 ∨ s = 998) {i j : Nat} (hij : i < j) (hj : j < 4) : 1 + (start + (0 + (i : Int)) * s) % 999 ≠ 1 + (start + (0 + (j : Int)) * s) % 999 := by
  have h : (i = 0 ∧ j = 1) ∨ (i = 0 ∧ j = 2) ∨ (i = 0 ∧ j = 3) ∨ (i = 1 ∧ j = 2) ∨ (i = 1 ∧ j = 3) ∨ (i = 2 ∧ j = 3) := by omega
  rcases h with ⟨rfl, rfl⟩ | ⟨rfl, rfl⟩ | ⟨rfl, rfl⟩ | ⟨rfl, rfl⟩ | ⟨rfl, rfl⟩ | ⟨rfl, rfl⟩ <;> rcases hs with rfl | rfl | rfl | rfl | rfl <;> omega
theorem folkL_nodup {start s : Int} (hs : s = 1 ∨ s = 100 ∨ s = 331 ∨ s = 500 ∨ s = 998) {m : Nat} (hm : m ≤ 4) : (folkL start s m).Nodup := by
  unfold folkL List.Nodup
  rw [List.pairwise_map]
  refine List.Pairwise.imp_of_mem (fun {i j} hi hj h => ?_) (List.pairwise_lt_range' (s := 0) (n := m) (step := 1))
  have := List.mem_range'_1.mp hj
  exact folk_ne hs h (by omega)
theorem r_folk2 (start p many : Int) (h0 : 0 ≤ p) (h1 : p < 5) (m0 : 0 ≤ many) (m1 : many ≤ 4) : ∃ fl : List Int, x_folk.run [.int start, .int p, .int many] = some (.list (fl.map PyData.int)) ∧ fl.length = many.toNat ∧ fl.Nodup := by
  obtain ⟨s, hs', hs⟩ := step_at h0 h1
  have hr : many ≤ 1000000000 ∧ -1000000000 ≤ many := by omega
  have e := lcD_map (f := lcTurn (.one 3) [3] tYes' folkE F7 [some (.int start), some (.int p), some (.int many), none]) (g := fun i : Nat => PyData.int (0 + (i : Nat))) (h := fun i : Nat => PyData.int (1 + (start + (0 + (i : Int)) * s) % 999)) (p := fun _ => true) (zs := List.range' 0 many.toNat) fun i hi => by
    have hb : i < many.toNat := by have := List.mem_range'_1.mp hi; omega
    rw [if_pos rfl]
    exact folk_turn start p many (0 + (i : Int)) s hs (by omega)
  rw [List.filter_eq_self.mpr fun _ _ => rfl] at e
  have e2 : (List.range' 0 many.toNat).map (fun i : Nat => PyData.int (1 + (start + (0 + (i : Int)) * s) % 999)) = (folkL start s many.toNat).map PyData.int := by
    unfold folkL
    rw [List.map_map]
    rfl
  rw [e2] at e
  have hlen : ((List.range' 0 many.toNat).map fun i : Nat => PyData.int (0 + (i : Nat))).length ≤ lim := by rw [List.length_map, List.length_range', lim_eq]; omega
  refine ⟨folkL start s many.toNat, ?_, folkL_len _ _ _, folkL_nodup hs' (by omega)⟩
  have h2 : iRange1 (eVar 2) F7 [some (.int start), some (.int p), some (.int many), none] = some ((List.range' 0 many.toNat).map fun i : Nat => PyData.int (0 + (i : Nat))) := by
    rw [q_range1, q_var]
    simp only [List.getElem?_cons_succ, List.getElem?_cons_zero, Option.join_some, Option.bind_some]
    rw [ro_int, if_pos hr, range_from]
  have hit : eLc [3] (.one 3) (iRange1 (eVar 2)) tYes' folkE F7 [some (.int start), some (.int p), some (.int many), none] = some (.list ((folkL start s many.toNat).map PyData.int)) := by
    rw [q_lc, h2, Option.bind_some, if_pos hlen, e, Option.map_some]
  unfold folkE at hit
  have ht : thawS [some (Sv.d (.int start)), some (.d (.int p)), some (.d (.int many)), none] = [some (.int start), some (.int p), some (.int many), none] := rfl
  rw [R_folk, D_folk_0, s_seq, r_ret, ht, hit]
  simp only [s_seq, s_nil, then_nx, then_ret, then_brk, then_ct, r_asg, r_asgT, r_aug, r_app, r_ext, r_ins, r_clr, r_item, r_if, r_for, r_forN, fo_list, q_rev, rv_list, r_ret, r_retV, r_retN, r_brk, r_ct, r_drop, q_var, q_c, q_bin, q_neg, q_not, q_and, q_or, q_if, q_nil, q_cons, q_tup, q_lst, q_ix, q_step, step_list, q_ssc, q_opt0, q_opt1, q_sl, q_call, q_isi, q_tB, q_tVal, q_tNot, q_tAnd, q_tOr, q_tYes, q_chain, q_seq, q_range1, v_dict, frzS_nil, frzS_cons, fz1_d, fz1_o, fz1_n, q_join, q_split, q_dec, dec_str, tup_rl, f_str, f_tuple, f_int, out_retS, stv_list, r_newK, it_k, th_k, hd_k, fz_k, fz1_k, list_k, q_inT, q_getT, it_int, it_str, gt_str, any_int, r_star, stv_tup, q_zip, sq_list, sq_tup, q_range2, r2_int, sl_tup, q_inT, q_getT, it_int, it_str, gt_str, any_int, r_star, stv_tup, q_zip, sq_list, sq_tup, q_range2, r2_int, sl_tup, v_list, v_listF, v_int, v_bool, v_str, v_none, v_tup, aft_t, aft_f, mk_no, mk_yes, mk_call, ret_list, ret_no, ret_int, ret_bool, ret_str, ret_none, ret_tup, retSv_own, retSv_d, o_add, o_sub, o_mul, o_fdiv, o_mod, o_pow, o_lt, o_le, o_gt, o_ge, o_eqI, o_neI, o_eqB, o_neB, o_addL, b_bool, x_list, x_tup, at0, at1, at2, at3, at4, at5, at6, at7, at_last, atN, len_l, len_t, len_s, max_r, min_r, list_r, f_len, f_list, f_max, f_min, f_sorted, f_sum, f_any, out_ret, out_retB, out_retL, out_retT, th_d, th_o, th_n, hd_d, hd_o, hd_n, thawS_nil, thawS_cons, hideS_nil, hideS_cons, frzL_nil, frzL_cons, frzAt_eq, fz_own, fz_d, fz_n, fl_int, fl_bool, fl_str, fl_tup, fls_nil, fls_cons, fls_app, fls_ints, tg1, tg2, tx1, tx2, sv_nil, sv_cons, dn_nil, dn_cons, wd_nil, wd_cons, so_list, so_tup, ro_int, ng_int, ap_own, au_int, au_add, au_sub, tv_bool, tv_list, tv_int, Option.bind_some, Option.bind_none, Option.map_some, Option.map_none, Option.getD_some, Option.getD_none, Option.join_some, List.getElem?_cons_zero, List.getElem?_cons_succ, List.set_cons_zero, List.set_cons_succ, List.length_cons, List.length_nil, List.length_map, ite_true, ite_false, if_true, if_false, Bool.and_true, Bool.true_and, Bool.false_eq_true, decide_eq_true_eq, Bool.not_true, Bool.not_false, and_self, and_true, true_and, reduceIte]
/-! ### alike -/
theorem like2_atom {d : D} (h : plain d = true) : x_like_1.run [d, d] = some (.bool true) := by
  rw [R_like_1, like_atom F_like_1 G_like_whole_1 h]
  rfl
theorem t_plain {f : Ft} (hf : FtOk f) : ∀ x ∈ PyData.int f.day :: .str f.w :: .int f.a :: f.r.map PyData.int, plain x = true := by
  intro x hx
  rcases List.mem_cons.mp hx with rfl | hx
  · rfl
  · rcases List.mem_cons.mp hx with rfl | hx
    · exact hf.ok
    · rcases List.mem_cons.mp hx with rfl | hx
      · rfl
      · obtain ⟨n, _, rfl⟩ := List.mem_map.mp hx
        rfl
theorem like2_t {f : Ft} (hf : FtOk f) : x_like_2.run [tD f, tD f] = some (.bool true) := by
  unfold tD
  rw [R_like_2, like_tup F_like_2 x_like_1 G_like_like_2 G_like_len_2 _ fun x hx => like2_atom (t_plain hf x hx)]
  rfl
theorem like2_int (n : Int) : x_like_2.run [.int n, .int n] = some (.bool true) := by
  rw [R_like_2, like_atom F_like_2 G_like_whole_2 (show plain (.int n) = true from rfl)]
  rfl
theorem like_lst (F : List Sem1) (s : Sem1) (hs : F[10]? = some s) (hl : F[0]? = some semLen) (xs : List D) (h : ∀ x ∈ xs, s.run [x, x] = some (.bool true)) : d_like_0 F [some (.d (.list xs)), some (.d (.list xs)), none, none] = some (.ret (.bool true) false) := by
  obtain ⟨x2', x3', e⟩ := like_loop F s hs (some (.d (.list xs))) (some (.d (.list xs))) xs none none h
  simp only [s_seq, s_nil, then_nx, then_ret, then_brk, then_ct, r_asg, r_asgT, r_aug, r_app, r_ext, r_ins, r_clr, r_item, r_if, r_for, r_forN, fo_list, q_rev, rv_list, r_ret, r_retV, r_retN, r_brk, r_ct, r_drop, q_var, q_c, q_bin, q_neg, q_not, q_and, q_or, q_if, q_nil, q_cons, q_tup, q_lst, q_ix, q_step, step_list, q_ssc, q_opt0, q_opt1, q_sl, q_call, q_isi, q_tB, q_tVal, q_tNot, q_tAnd, q_tOr, q_tYes, q_chain, q_seq, q_range1, v_dict, frzS_nil, frzS_cons, fz1_d, fz1_o, fz1_n, q_join, q_split, q_dec, dec_str, tup_rl, f_str, f_tuple, f_int, out_retS, stv_list, r_newK, it_k, th_k, hd_k, fz_k, fz1_k, list_k, q_inT, q_getT, it_int, it_str, gt_str, any_int, r_star, stv_tup, q_zip, sq_list, sq_tup, q_range2, r2_int, sl_tup, q_inT, q_getT, it_int, it_str, gt_str, any_int, r_star, stv_tup, q_zip, sq_list, sq_tup, q_range2, r2_int, sl_tup, v_list, v_listF, v_int, v_bool, v_str, v_none, v_tup, aft_t, aft_f, mk_no, mk_yes, mk_call, ret_list, ret_no, ret_int, ret_bool, ret_str, ret_none, ret_tup, retSv_own, retSv_d, o_add, o_sub, o_mul, o_fdiv, o_mod, o_pow, o_lt, o_le, o_gt, o_ge, o_eqI, o_neI, o_eqB, o_neB, o_addL, b_bool, x_list, x_tup, at0, at1, at2, at3, at4, at5, at6, at7, at_last, atN, len_l, len_t, len_s, max_r, min_r, list_r, f_len, f_list, f_max, f_min, f_sorted, f_sum, f_any, out_ret, out_retB, out_retL, out_retT, th_d, th_o, th_n, hd_d, hd_o, hd_n, thawS_nil, thawS_cons, hideS_nil, hideS_cons, frzL_nil, frzL_cons, frzAt_eq, fz_own, fz_d, fz_n, fl_int, fl_bool, fl_str, fl_tup, fls_nil, fls_cons, fls_app, fls_ints, tg1, tg2, tx1, tx2, sv_nil, sv_cons, dn_nil, dn_cons, wd_nil, wd_cons, so_list, so_tup, ro_int, ng_int, ap_own, au_int, au_add, au_sub, tv_bool, tv_list, tv_int, Option.bind_some, Option.bind_none, Option.map_some, Option.map_none, Option.getD_some, Option.getD_none, Option.join_some, List.getElem?_cons_zero, List.getElem?_cons_succ, List.set_cons_zero, List.set_cons_succ, List.length_cons, List.length_nil, List.length_map, ite_true, ite_false, if_true, if_false, Bool.and_true, Bool.true_and, Bool.false_eq_true, decide_eq_true_eq, Bool.not_true, Bool.not_false, and_self, and_true, true_and, reduceIte, D_like_0, D_like_1, D_like_2, D_like_3, D_like_4, D_like_5, is_lst, isi2, isiD, beq_self_eq_true, hl, eq_self, decide_true]
  simp only [s_seq, s_nil, then_nx, then_ret, then_brk, then_ct, r_asg, r_asgT, r_aug, r_app, r_ext, r_ins, r_clr, r_item, r_if, r_for, r_forN, fo_list, q_rev, rv_list, r_ret, r_retV, r_retN, r_brk, r_ct, r_drop, q_var, q_c, q_bin, q_neg, q_not, q_and, q_or, q_if, q_nil, q_cons, q_tup, q_lst, q_ix, q_step, step_list, q_ssc, q_opt0, q_opt1, q_sl, q_call, q_isi, q_tB, q_tVal, q_tNot, q_tAnd, q_tOr, q_tYes, q_chain, q_seq, q_range1, v_dict, frzS_nil, frzS_cons, fz1_d, fz1_o, fz1_n, q_join, q_split, q_dec, dec_str, tup_rl, f_str, f_tuple, f_int, out_retS, stv_list, r_newK, it_k, th_k, hd_k, fz_k, fz1_k, list_k, q_inT, q_getT, it_int, it_str, gt_str, any_int, r_star, stv_tup, q_zip, sq_list, sq_tup, q_range2, r2_int, sl_tup, q_inT, q_getT, it_int, it_str, gt_str, any_int, r_star, stv_tup, q_zip, sq_list, sq_tup, q_range2, r2_int, sl_tup, v_list, v_listF, v_int, v_bool, v_str, v_none, v_tup, aft_t, aft_f, mk_no, mk_yes, mk_call, ret_list, ret_no, ret_int, ret_bool, ret_str, ret_none, ret_tup, retSv_own, retSv_d, o_add, o_sub, o_mul, o_fdiv, o_mod, o_pow, o_lt, o_le, o_gt, o_ge, o_eqI, o_neI, o_eqB, o_neB, o_addL, b_bool, x_list, x_tup, at0, at1, at2, at3, at4, at5, at6, at7, at_last, atN, len_l, len_t, len_s, max_r, min_r, list_r, f_len, f_list, f_max, f_min, f_sorted, f_sum, f_any, out_ret, out_retB, out_retL, out_retT, th_d, th_o, th_n, hd_d, hd_o, hd_n, thawS_nil, thawS_cons, hideS_nil, hideS_cons, frzL_nil, frzL_cons, frzAt_eq, fz_own, fz_d, fz_n, fl_int, fl_bool, fl_str, fl_tup, fls_nil, fls_cons, fls_app, fls_ints, tg1, tg2, tx1, tx2, sv_nil, sv_cons, dn_nil, dn_cons, wd_nil, wd_cons, so_list, so_tup, ro_int, ng_int, ap_own, au_int, au_add, au_sub, tv_bool, tv_list, tv_int, Option.bind_some, Option.bind_none, Option.map_some, Option.map_none, Option.getD_some, Option.getD_none, Option.join_some, List.getElem?_cons_zero, List.getElem?_cons_succ, List.set_cons_zero, List.set_cons_succ, List.length_cons, List.length_nil, List.length_map, ite_true, ite_false, if_true, if_false, Bool.and_true, Bool.true_and, Bool.false_eq_true, decide_eq_true_eq, Bool.not_true, Bool.not_false, and_self, and_true, true_and, reduceIte, D_like_6, D_like_7, e]
theorem like_facts (fs : List Ft) (hf : ∀ f ∈ fs, FtOk f) : x_like.run [.list (fs.map tD), .list (fs.map tD)] = some (.bool true) := by
  rw [R_like, like_lst F_like_3 x_like_2 G_like_like_3 G_like_len_3 (fs.map tD) fun x hx => by
    obtain ⟨f, hm, rfl⟩ := List.mem_map.mp hx
    exact like2_t (hf f hm)]
  rfl
theorem like_ints (ns : List Int) : x_like.run [.list (ns.map PyData.int), .list (ns.map PyData.int)] = some (.bool true) := by
  rw [R_like, like_lst F_like_3 x_like_2 G_like_like_3 G_like_len_3 (ns.map PyData.int) fun x hx => by
    obtain ⟨n, _, rfl⟩ := List.mem_map.mp hx
    exact like2_int n]
  rfl
/-! ### the days of the walks, by the list in order -/
def dayS (one other : Int) (acc : List Int) (f : Ft) : List Int := if isWalk one other f = true ∧ f.day ∉ acc then acc ++ [f.day] else acc
theorem dayS_len (one other : Int) (acc : List Int) (f : Ft) : (dayS one other acc f).length ≤ acc.length + 1 := by
  unfold dayS
  split
  · rw [List.length_append, List.length_singleton]
    exact Nat.le_refl _
  · omega
theorem day_turn (one other : Int) (f : Ft) (hf : FtOk f) (acc : List Int) (hl : acc.length ≤ 1000) (x0 x1 x2 x3 x4 x5 x6 x7 x8 x11 x14 x15 x16 x17 : Option Sv) : b_law_0 F11 [x0, x1, x2, x3, x4, x5, x6, x7, x8, some (.d (.int one)), some (.d (.int other)), x11, some (.own (acc.map PyData.int)), some (.d (tD f)), x14, x15, x16, x17] = some (.nx [x0, x1, x2, x3, x4, x5, x6, x7, x8, some (.d (.int one)), some (.d (.int other)), x11, some (.own ((dayS one other acc f).map PyData.int)), some (.d (tD f)), x14, x15, x16, x17]) := by
  have l3 : (3 : Nat) ≤ lim := by rw [lim_eq]; omega
  have hlim : acc.length < lim := by rw [lim_eq]; omega
  unfold tD dayS isWalk
  by_cases hb : f.w = "walk" ∧ f.a = one ∧ f.r = [other]
  · have e := eq_wl (w := "walk") (a := one) (b := one) (c := other) (r := [other]) ok_walk9
    rw [List.map_cons, List.map_nil] at e
    rw [hb.1, hb.2.1, hb.2.2]
    by_cases hd : f.day ∈ acc
    · simp only [s_seq, s_nil, then_nx, then_ret, then_brk, then_ct, r_asg, r_asgT, r_aug, r_app, r_ext, r_ins, r_clr, r_item, r_if, r_for, r_forN, fo_list, q_rev, rv_list, r_ret, r_retV, r_retN, r_brk, r_ct, r_drop, q_var, q_c, q_bin, q_neg, q_not, q_and, q_or, q_if, q_nil, q_cons, q_tup, q_lst, q_ix, q_step, step_list, q_ssc, q_opt0, q_opt1, q_sl, q_call, q_isi, q_tB, q_tVal, q_tNot, q_tAnd, q_tOr, q_tYes, q_chain, q_seq, q_range1, v_dict, frzS_nil, frzS_cons, fz1_d, fz1_o, fz1_n, q_join, q_split, q_dec, dec_str, tup_rl, f_str, f_tuple, f_int, out_retS, stv_list, r_newK, it_k, th_k, hd_k, fz_k, fz1_k, list_k, q_inT, q_getT, it_int, it_str, gt_str, any_int, r_star, stv_tup, q_zip, sq_list, sq_tup, q_range2, r2_int, sl_tup, q_inT, q_getT, it_int, it_str, gt_str, any_int, r_star, stv_tup, q_zip, sq_list, sq_tup, q_range2, r2_int, sl_tup, v_list, v_listF, v_int, v_bool, v_str, v_none, v_tup, aft_t, aft_f, mk_no, mk_yes, mk_call, ret_list, ret_no, ret_int, ret_bool, ret_str, ret_none, ret_tup, retSv_own, retSv_d, o_add, o_sub, o_mul, o_fdiv, o_mod, o_pow, o_lt, o_le, o_gt, o_ge, o_eqI, o_neI, o_eqB, o_neB, o_addL, b_bool, x_list, x_tup, at0, at1, at2, at3, at4, at5, at6, at7, at_last, atN, len_l, len_t, len_s, max_r, min_r, list_r, f_len, f_list, f_max, f_min, f_sorted, f_sum, f_any, out_ret, out_retB, out_retL, out_retT, th_d, th_o, th_n, hd_d, hd_o, hd_n, thawS_nil, thawS_cons, hideS_nil, hideS_cons, frzL_nil, frzL_cons, frzAt_eq, fz_own, fz_d, fz_n, fl_int, fl_bool, fl_str, fl_tup, fls_nil, fls_cons, fls_app, fls_ints, tg1, tg2, tx1, tx2, sv_nil, sv_cons, dn_nil, dn_cons, wd_nil, wd_cons, so_list, so_tup, ro_int, ng_int, ap_own, au_int, au_add, au_sub, tv_bool, tv_list, tv_int, Option.bind_some, Option.bind_none, Option.map_some, Option.map_none, Option.getD_some, Option.getD_none, Option.join_some, List.getElem?_cons_zero, List.getElem?_cons_succ, List.set_cons_zero, List.set_cons_succ, List.length_cons, List.length_nil, List.length_map, ite_true, ite_false, if_true, if_false, Bool.and_true, Bool.true_and, Bool.false_eq_true, decide_eq_true_eq, Bool.not_true, Bool.not_false, and_self, and_true, true_and, reduceIte, B_law_0, int_of, Option.pure_def, Option.bind_eq_bind, l3, cut1, e, decide_true, eq_self, and_self, List.map_cons, List.map_nil, nin_ints, hd, not_true, and_false]
    · simp only [s_seq, s_nil, then_nx, then_ret, then_brk, then_ct, r_asg, r_asgT, r_aug, r_app, r_ext, r_ins, r_clr, r_item, r_if, r_for, r_forN, fo_list, q_rev, rv_list, r_ret, r_retV, r_retN, r_brk, r_ct, r_drop, q_var, q_c, q_bin, q_neg, q_not, q_and, q_or, q_if, q_nil, q_cons, q_tup, q_lst, q_ix, q_step, step_list, q_ssc, q_opt0, q_opt1, q_sl, q_call, q_isi, q_tB, q_tVal, q_tNot, q_tAnd, q_tOr, q_tYes, q_chain, q_seq, q_range1, v_dict, frzS_nil, frzS_cons, fz1_d, fz1_o, fz1_n, q_join, q_split, q_dec, dec_str, tup_rl, f_str, f_tuple, f_int, out_retS, stv_list, r_newK, it_k, th_k, hd_k, fz_k, fz1_k, list_k, q_inT, q_getT, it_int, it_str, gt_str, any_int, r_star, stv_tup, q_zip, sq_list, sq_tup, q_range2, r2_int, sl_tup, q_inT, q_getT, it_int, it_str, gt_str, any_int, r_star, stv_tup, q_zip, sq_list, sq_tup, q_range2, r2_int, sl_tup, v_list, v_listF, v_int, v_bool, v_str, v_none, v_tup, aft_t, aft_f, mk_no, mk_yes, mk_call, ret_list, ret_no, ret_int, ret_bool, ret_str, ret_none, ret_tup, retSv_own, retSv_d, o_add, o_sub, o_mul, o_fdiv, o_mod, o_pow, o_lt, o_le, o_gt, o_ge, o_eqI, o_neI, o_eqB, o_neB, o_addL, b_bool, x_list, x_tup, at0, at1, at2, at3, at4, at5, at6, at7, at_last, atN, len_l, len_t, len_s, max_r, min_r, list_r, f_len, f_list, f_max, f_min, f_sorted, f_sum, f_any, out_ret, out_retB, out_retL, out_retT, th_d, th_o, th_n, hd_d, hd_o, hd_n, thawS_nil, thawS_cons, hideS_nil, hideS_cons, frzL_nil, frzL_cons, frzAt_eq, fz_own, fz_d, fz_n, fl_int, fl_bool, fl_str, fl_tup, fls_nil, fls_cons, fls_app, fls_ints, tg1, tg2, tx1, tx2, sv_nil, sv_cons, dn_nil, dn_cons, wd_nil, wd_cons, so_list, so_tup, ro_int, ng_int, ap_own, au_int, au_add, au_sub, tv_bool, tv_list, tv_int, Option.bind_some, Option.bind_none, Option.map_some, Option.map_none, Option.getD_some, Option.getD_none, Option.join_some, List.getElem?_cons_zero, List.getElem?_cons_succ, List.set_cons_zero, List.set_cons_succ, List.length_cons, List.length_nil, List.length_map, ite_true, ite_false, if_true, if_false, Bool.and_true, Bool.true_and, Bool.false_eq_true, decide_eq_true_eq, Bool.not_true, Bool.not_false, and_self, and_true, true_and, reduceIte, B_law_0, int_of, Option.pure_def, Option.bind_eq_bind, l3, cut1, e, decide_true, decide_false, eq_self, and_self, List.map_cons, List.map_nil, List.map_append, nin_ints, hd, not_false_iff, hlim]
  · simp only [s_seq, s_nil, then_nx, then_ret, then_brk, then_ct, r_asg, r_asgT, r_aug, r_app, r_ext, r_ins, r_clr, r_item, r_if, r_for, r_forN, fo_list, q_rev, rv_list, r_ret, r_retV, r_retN, r_brk, r_ct, r_drop, q_var, q_c, q_bin, q_neg, q_not, q_and, q_or, q_if, q_nil, q_cons, q_tup, q_lst, q_ix, q_step, step_list, q_ssc, q_opt0, q_opt1, q_sl, q_call, q_isi, q_tB, q_tVal, q_tNot, q_tAnd, q_tOr, q_tYes, q_chain, q_seq, q_range1, v_dict, frzS_nil, frzS_cons, fz1_d, fz1_o, fz1_n, q_join, q_split, q_dec, dec_str, tup_rl, f_str, f_tuple, f_int, out_retS, stv_list, r_newK, it_k, th_k, hd_k, fz_k, fz1_k, list_k, q_inT, q_getT, it_int, it_str, gt_str, any_int, r_star, stv_tup, q_zip, sq_list, sq_tup, q_range2, r2_int, sl_tup, q_inT, q_getT, it_int, it_str, gt_str, any_int, r_star, stv_tup, q_zip, sq_list, sq_tup, q_range2, r2_int, sl_tup, v_list, v_listF, v_int, v_bool, v_str, v_none, v_tup, aft_t, aft_f, mk_no, mk_yes, mk_call, ret_list, ret_no, ret_int, ret_bool, ret_str, ret_none, ret_tup, retSv_own, retSv_d, o_add, o_sub, o_mul, o_fdiv, o_mod, o_pow, o_lt, o_le, o_gt, o_ge, o_eqI, o_neI, o_eqB, o_neB, o_addL, b_bool, x_list, x_tup, at0, at1, at2, at3, at4, at5, at6, at7, at_last, atN, len_l, len_t, len_s, max_r, min_r, list_r, f_len, f_list, f_max, f_min, f_sorted, f_sum, f_any, out_ret, out_retB, out_retL, out_retT, th_d, th_o, th_n, hd_d, hd_o, hd_n, thawS_nil, thawS_cons, hideS_nil, hideS_cons, frzL_nil, frzL_cons, frzAt_eq, fz_own, fz_d, fz_n, fl_int, fl_bool, fl_str, fl_tup, fls_nil, fls_cons, fls_app, fls_ints, tg1, tg2, tx1, tx2, sv_nil, sv_cons, dn_nil, dn_cons, wd_nil, wd_cons, so_list, so_tup, ro_int, ng_int, ap_own, au_int, au_add, au_sub, tv_bool, tv_list, tv_int, Option.bind_some, Option.bind_none, Option.map_some, Option.map_none, Option.getD_some, Option.getD_none, Option.join_some, List.getElem?_cons_zero, List.getElem?_cons_succ, List.set_cons_zero, List.set_cons_succ, List.length_cons, List.length_nil, List.length_map, ite_true, ite_false, if_true, if_false, Bool.and_true, Bool.true_and, Bool.false_eq_true, decide_eq_true_eq, Bool.not_true, Bool.not_false, and_self, and_true, true_and, reduceIte, B_law_0, int_of, Option.pure_def, Option.bind_eq_bind, l3, cut1, eq_wl hf.ok, hb, decide_false, false_and]
theorem day_loop (one other : Int) (x0 x1 x2 x3 x4 x5 x6 x7 x8 x11 x14 x15 x16 x17 : Option Sv) : ∀ (fs : List Ft) (acc : List Int) (x13 : Option Sv), (∀ f ∈ fs, FtOk f) → acc.length + fs.length ≤ 1000 → ∃ y13, forD (b_law_0 F11) (.one 13) (fs.map tD) [x0, x1, x2, x3, x4, x5, x6, x7, x8, some (.d (.int one)), some (.d (.int other)), x11, some (.own (acc.map PyData.int)), x13, x14, x15, x16, x17] = some (.nx [x0, x1, x2, x3, x4, x5, x6, x7, x8, some (.d (.int one)), some (.d (.int other)), x11, some (.own ((fs.foldl (dayS one other) acc).map PyData.int)), y13, x14, x15, x16, x17])
  | [], acc, x13, _, _ => ⟨x13, rfl⟩
  | f :: fs, acc, x13, hf, hl => by
    rw [List.length_cons] at hl
    have hlen := dayS_len one other acc f
    obtain ⟨y13, e⟩ := day_loop one other x0 x1 x2 x3 x4 x5 x6 x7 x8 x11 x14 x15 x16 x17 fs (dayS one other acc f) (some (.d (tD f))) (fun g hg => hf g (List.mem_cons_of_mem _ hg)) (by omega)
    exact ⟨y13, by rw [List.map_cons, for_nx (day_turn one other f (hf f List.mem_cons_self) acc (by omega) x0 x1 x2 x3 x4 x5 x6 x7 x8 x11 x14 x15 x16 x17), e, List.foldl_cons]⟩
theorem days_up (one other : Int) : ∀ (fs : List Ft) (acc : List Int), (fs.Pairwise fun f g => leT f g = true) → acc.Pairwise (· < ·) → (∀ x ∈ acc, ∀ f ∈ fs, x ≤ f.day) → (fs.foldl (dayS one other) acc).Pairwise (· < ·) ∧ ∀ d, d ∈ fs.foldl (dayS one other) acc ↔ d ∈ acc ∨ d ∈ (fs.filter (isWalk one other)).map (·.day)
  | [], acc, _, ha, _ => ⟨ha, fun d => ⟨.inl, fun h => h.elim id fun h => by cases h⟩⟩
  | f :: fs, acc, hp, ha, hle => by
    have hp' := List.pairwise_cons.mp hp
    have hnew : (dayS one other acc f).Pairwise (· < ·) ∧ (∀ x ∈ dayS one other acc f, ∀ g ∈ fs, x ≤ g.day) ∧ ∀ d, d ∈ dayS one other acc f ↔ d ∈ acc ∨ (isWalk one other f = true ∧ d = f.day) := by
      unfold dayS
      split
      · rename_i h
        refine ⟨List.pairwise_append.mpr ⟨ha, List.pairwise_singleton _ _, fun x hx y hy => ?_⟩, fun x hx g hg => ?_, fun d => ?_⟩
        · rw [List.mem_singleton.mp hy]
          have h1 := hle x hx f List.mem_cons_self
          have h2 : x ≠ f.day := fun e => h.2 (e ▸ hx)
          omega
        · rcases List.mem_append.mp hx with hx | hx
          · exact hle x hx g (List.mem_cons_of_mem _ hg)
          · rw [List.mem_singleton.mp hx]
            exact leT_day (hp'.1 g hg)
        · rw [List.mem_append, List.mem_singleton]
          exact or_congr_right ⟨fun e => ⟨h.1, e⟩, fun e => e.2⟩
      · rename_i h
        refine ⟨ha, fun x hx g hg => hle x hx g (List.mem_cons_of_mem _ hg), fun d => ⟨.inl, fun e => e.elim id fun ⟨e1, e2⟩ => ?_⟩⟩
        rw [e2]
        exact Decidable.byContradiction fun z => h ⟨e1, z⟩
    obtain ⟨h1, h2⟩ := days_up one other fs (dayS one other acc f) hp'.2 hnew.1 hnew.2.1
    refine ⟨h1, fun d => ?_⟩
    rw [List.foldl_cons, h2 d, hnew.2.2 d, List.filter_cons]
    by_cases hw : isWalk one other f = true
    · rw [if_pos hw, List.map_cons, List.mem_cons]
      constructor
      · rintro ((h | h) | h)
        · exact .inl h
        · exact .inr (.inl h.2)
        · exact .inr (.inr h)
      · rintro (h | h | h)
        · exact .inl (.inl h)
        · exact .inl (.inr ⟨hw, h⟩)
        · exact .inr h
    · rw [if_neg hw]
      constructor
      · rintro ((h | h) | h)
        · exact .inl h
        · exact absurd h.1 hw
        · exact .inr h
      · rintro (h | h)
        · exact .inl (.inl h)
        · exact .inr h
theorem days_eq (one other : Int) (fs : List Ft) : (srt fs).foldl (dayS one other) [] = nubS ((fs.filter (isWalk one other)).map (·.day)) := by
  obtain ⟨h1, h2⟩ := days_up one other (srt fs) [] (srt_up fs) List.Pairwise.nil (fun x h => by cases h)
  refine up_unique h1 (nubS_up _) fun d => ?_
  rw [h2 d, nubS_mem]
  have hm : d ∈ ((srt fs).filter (isWalk one other)).map (·.day) ↔ d ∈ (fs.filter (isWalk one other)).map (·.day) := (((srt_perm fs).filter _).map _).mem_iff
  rw [hm]
  exact ⟨fun h => h.elim (fun h => by cases h) id, .inr⟩
/-! ### the law -/
theorem r_few2 (ns : List Int) (start many base wide : Int) (folk fields : List Int) (hs : 0 ≤ start) (f2 : 2 ≤ folk.length) (f1 : folk.length ≤ 100) (g2 : 2 ≤ fields.length) (g1 : fields.length ≤ 100) (b0 : 0 ≤ base) (w0 : 0 < wide) (bw : base + wide ≤ 10000) (w1 : wide ≤ 1000) (m0 : 0 ≤ many) (m1 : many ≤ 30) :
    ∃ fs : List Ft, (∀ f ∈ fs, FtOk f) ∧ fs.length ≤ 30 ∧ x_few.run [scrD ns, .int start, .int many, .list (folk.map PyData.int), .list (fields.map PyData.int), .int base, .int wide] = some (.list (fs.map tD)) := by
  obtain ⟨fs, y8, y9, y10, y11, y12, y13, h1, h2, e⟩ := few_loop ns start many base wide folk fields hs f2 f1 g2 g1 b0 w0 bw w1 many.toNat 0 [] none none none none none none (by rw [List.length_nil]; omega) (fun f hf => by cases hf)
  refine ⟨fs, h1, by rw [h2, List.length_nil]; omega, ?_⟩
  have hr : many ≤ 1000000000 ∧ -1000000000 ≤ many := by omega
  have hf : flats (fs.map tD) = true := fls_map tD_flat fs
  rw [R_few]
  rw [List.map_nil] at e
  simp only [s_seq, s_nil, then_nx, then_ret, then_brk, then_ct, r_asg, r_asgT, r_aug, r_app, r_ext, r_ins, r_clr, r_item, r_if, r_for, r_forN, fo_list, q_rev, rv_list, r_ret, r_retV, r_retN, r_brk, r_ct, r_drop, q_var, q_c, q_bin, q_neg, q_not, q_and, q_or, q_if, q_nil, q_cons, q_tup, q_lst, q_ix, q_step, step_list, q_ssc, q_opt0, q_opt1, q_sl, q_call, q_isi, q_tB, q_tVal, q_tNot, q_tAnd, q_tOr, q_tYes, q_chain, q_seq, q_range1, v_dict, frzS_nil, frzS_cons, fz1_d, fz1_o, fz1_n, q_join, q_split, q_dec, dec_str, tup_rl, f_str, f_tuple, f_int, out_retS, stv_list, r_newK, it_k, th_k, hd_k, fz_k, fz1_k, list_k, q_inT, q_getT, it_int, it_str, gt_str, any_int, r_star, stv_tup, q_zip, sq_list, sq_tup, q_range2, r2_int, sl_tup, q_inT, q_getT, it_int, it_str, gt_str, any_int, r_star, stv_tup, q_zip, sq_list, sq_tup, q_range2, r2_int, sl_tup, v_list, v_listF, v_int, v_bool, v_str, v_none, v_tup, aft_t, aft_f, mk_no, mk_yes, mk_call, ret_list, ret_no, ret_int, ret_bool, ret_str, ret_none, ret_tup, retSv_own, retSv_d, o_add, o_sub, o_mul, o_fdiv, o_mod, o_pow, o_lt, o_le, o_gt, o_ge, o_eqI, o_neI, o_eqB, o_neB, o_addL, b_bool, x_list, x_tup, at0, at1, at2, at3, at4, at5, at6, at7, at_last, atN, len_l, len_t, len_s, max_r, min_r, list_r, f_len, f_list, f_max, f_min, f_sorted, f_sum, f_any, out_ret, out_retB, out_retL, out_retT, th_d, th_o, th_n, hd_d, hd_o, hd_n, thawS_nil, thawS_cons, hideS_nil, hideS_cons, frzL_nil, frzL_cons, frzAt_eq, fz_own, fz_d, fz_n, fl_int, fl_bool, fl_str, fl_tup, fls_nil, fls_cons, fls_app, fls_ints, tg1, tg2, tx1, tx2, sv_nil, sv_cons, dn_nil, dn_cons, wd_nil, wd_cons, so_list, so_tup, ro_int, ng_int, ap_own, au_int, au_add, au_sub, tv_bool, tv_list, tv_int, Option.bind_some, Option.bind_none, Option.map_some, Option.map_none, Option.getD_some, Option.getD_none, Option.join_some, List.getElem?_cons_zero, List.getElem?_cons_succ, List.set_cons_zero, List.set_cons_succ, List.length_cons, List.length_nil, List.length_map, ite_true, ite_false, if_true, if_false, Bool.and_true, Bool.true_and, Bool.false_eq_true, decide_eq_true_eq, Bool.not_true, Bool.not_false, and_self, and_true, true_and, reduceIte, D_few_0, D_few_1, D_few_2, D_few_3, hr, Nat.zero_le, range_from]
  rw [e]
  simp only [s_seq, s_nil, then_nx, then_ret, then_brk, then_ct, r_asg, r_asgT, r_aug, r_app, r_ext, r_ins, r_clr, r_item, r_if, r_for, r_forN, fo_list, q_rev, rv_list, r_ret, r_retV, r_retN, r_brk, r_ct, r_drop, q_var, q_c, q_bin, q_neg, q_not, q_and, q_or, q_if, q_nil, q_cons, q_tup, q_lst, q_ix, q_step, step_list, q_ssc, q_opt0, q_opt1, q_sl, q_call, q_isi, q_tB, q_tVal, q_tNot, q_tAnd, q_tOr, q_tYes, q_chain, q_seq, q_range1, v_dict, frzS_nil, frzS_cons, fz1_d, fz1_o, fz1_n, q_join, q_split, q_dec, dec_str, tup_rl, f_str, f_tuple, f_int, out_retS, stv_list, r_newK, it_k, th_k, hd_k, fz_k, fz1_k, list_k, q_inT, q_getT, it_int, it_str, gt_str, any_int, r_star, stv_tup, q_zip, sq_list, sq_tup, q_range2, r2_int, sl_tup, q_inT, q_getT, it_int, it_str, gt_str, any_int, r_star, stv_tup, q_zip, sq_list, sq_tup, q_range2, r2_int, sl_tup, v_list, v_listF, v_int, v_bool, v_str, v_none, v_tup, aft_t, aft_f, mk_no, mk_yes, mk_call, ret_list, ret_no, ret_int, ret_bool, ret_str, ret_none, ret_tup, retSv_own, retSv_d, o_add, o_sub, o_mul, o_fdiv, o_mod, o_pow, o_lt, o_le, o_gt, o_ge, o_eqI, o_neI, o_eqB, o_neB, o_addL, b_bool, x_list, x_tup, at0, at1, at2, at3, at4, at5, at6, at7, at_last, atN, len_l, len_t, len_s, max_r, min_r, list_r, f_len, f_list, f_max, f_min, f_sorted, f_sum, f_any, out_ret, out_retB, out_retL, out_retT, th_d, th_o, th_n, hd_d, hd_o, hd_n, thawS_nil, thawS_cons, hideS_nil, hideS_cons, frzL_nil, frzL_cons, frzAt_eq, fz_own, fz_d, fz_n, fl_int, fl_bool, fl_str, fl_tup, fls_nil, fls_cons, fls_app, fls_ints, tg1, tg2, tx1, tx2, sv_nil, sv_cons, dn_nil, dn_cons, wd_nil, wd_cons, so_list, so_tup, ro_int, ng_int, ap_own, au_int, au_add, au_sub, tv_bool, tv_list, tv_int, Option.bind_some, Option.bind_none, Option.map_some, Option.map_none, Option.getD_some, Option.getD_none, Option.join_some, List.getElem?_cons_zero, List.getElem?_cons_succ, List.set_cons_zero, List.set_cons_succ, List.length_cons, List.length_nil, List.length_map, ite_true, ite_false, if_true, if_false, Bool.and_true, Bool.true_and, Bool.false_eq_true, decide_eq_true_eq, Bool.not_true, Bool.not_false, and_self, and_true, true_and, reduceIte, D_few_0, D_few_1, D_few_2, D_few_3, hf]
theorem pigeon : ∀ (m : Nat) (fl : List Int), fl.length < m → ∃ i, i < m ∧ (1 + (i : Int)) ∉ fl
  | 0, fl, h => by omega
  | m + 1, fl, h => by
    by_cases hm : (1 + (m : Int)) ∈ fl
    · have hlt : (fl.filter fun x => decide (x ≠ 1 + (m : Int))).length < m := by
        have h1 : (fl.filter fun x => decide (x ≠ 1 + (m : Int))).length < fl.length := by
          refine List.length_filter_lt_length_iff_exists.mpr ⟨_, hm, ?_⟩
          simp
        omega
      obtain ⟨i, hi, hn⟩ := pigeon m _ hlt
      refine ⟨i, by omega, fun hc => hn (List.mem_filter.mpr ⟨hc, decide_eq_true (by omega)⟩)⟩
    · exact ⟨m, by omega, hm⟩
theorem strange_val (fl : List Int) (hl : fl.length ≤ 4) (x0 x1 x2 x4 x5 x6 x7 x8 x9 x10 x11 x12 x13 x14 x15 x16 x17 : Option D) : ∃ st : Int, st ∉ fl ∧ eIx (eLc [16] (.one 16) (iRange2 (eC (.int 1)) (eC (.int 9))) (tB (eBin .notin (eVar 16) (eVar 3))) (eVar 16)) (eC (.int 0)) F11 [x0, x1, x2, some (.list (fl.map PyData.int)), x4, x5, x6, x7, x8, x9, x10, x11, x12, x13, x14, x15, x16, x17] = some (.int st) := by
  have hlc := lcD_map (f := lcTurn (.one 16) [16] (tB (eBin .notin (eVar 16) (eVar 3))) (eVar 16) F11 [x0, x1, x2, some (.list (fl.map PyData.int)), x4, x5, x6, x7, x8, x9, x10, x11, x12, x13, x14, x15, x16, x17]) (g := fun i : Nat => PyData.int (1 + (i : Int))) (h := fun i : Nat => PyData.int (1 + (i : Int))) (p := fun i => decide ((1 + (i : Int)) ∉ fl)) (zs := List.range' 0 8) fun i _ => by
    rw [q_turn]
    by_cases h : (1 + (i : Int)) ∈ fl
    · simp only [s_seq, s_nil, then_nx, then_ret, then_brk, then_ct, r_asg, r_asgT, r_aug, r_app, r_ext, r_ins, r_clr, r_item, r_if, r_for, r_forN, fo_list, q_rev, rv_list, r_ret, r_retV, r_retN, r_brk, r_ct, r_drop, q_var, q_c, q_bin, q_neg, q_not, q_and, q_or, q_if, q_nil, q_cons, q_tup, q_lst, q_ix, q_step, step_list, q_ssc, q_opt0, q_opt1, q_sl, q_call, q_isi, q_tB, q_tVal, q_tNot, q_tAnd, q_tOr, q_tYes, q_chain, q_seq, q_range1, v_dict, frzS_nil, frzS_cons, fz1_d, fz1_o, fz1_n, q_join, q_split, q_dec, dec_str, tup_rl, f_str, f_tuple, f_int, out_retS, stv_list, r_newK, it_k, th_k, hd_k, fz_k, fz1_k, list_k, q_inT, q_getT, it_int, it_str, gt_str, any_int, r_star, stv_tup, q_zip, sq_list, sq_tup, q_range2, r2_int, sl_tup, q_inT, q_getT, it_int, it_str, gt_str, any_int, r_star, stv_tup, q_zip, sq_list, sq_tup, q_range2, r2_int, sl_tup, v_list, v_listF, v_int, v_bool, v_str, v_none, v_tup, aft_t, aft_f, mk_no, mk_yes, mk_call, ret_list, ret_no, ret_int, ret_bool, ret_str, ret_none, ret_tup, retSv_own, retSv_d, o_add, o_sub, o_mul, o_fdiv, o_mod, o_pow, o_lt, o_le, o_gt, o_ge, o_eqI, o_neI, o_eqB, o_neB, o_addL, b_bool, x_list, x_tup, at0, at1, at2, at3, at4, at5, at6, at7, at_last, atN, len_l, len_t, len_s, max_r, min_r, list_r, f_len, f_list, f_max, f_min, f_sorted, f_sum, f_any, out_ret, out_retB, out_retL, out_retT, th_d, th_o, th_n, hd_d, hd_o, hd_n, thawS_nil, thawS_cons, hideS_nil, hideS_cons, frzL_nil, frzL_cons, frzAt_eq, fz_own, fz_d, fz_n, fl_int, fl_bool, fl_str, fl_tup, fls_nil, fls_cons, fls_app, fls_ints, tg1, tg2, tx1, tx2, sv_nil, sv_cons, dn_nil, dn_cons, wd_nil, wd_cons, so_list, so_tup, ro_int, ng_int, ap_own, au_int, au_add, au_sub, tv_bool, tv_list, tv_int, Option.bind_some, Option.bind_none, Option.map_some, Option.map_none, Option.getD_some, Option.getD_none, Option.join_some, List.getElem?_cons_zero, List.getElem?_cons_succ, List.set_cons_zero, List.set_cons_succ, List.length_cons, List.length_nil, List.length_map, ite_true, ite_false, if_true, if_false, Bool.and_true, Bool.true_and, Bool.false_eq_true, decide_eq_true_eq, Bool.not_true, Bool.not_false, and_self, and_true, true_and, reduceIte, nin_ints, h, decide_true, decide_false, not_true]
    · simp only [s_seq, s_nil, then_nx, then_ret, then_brk, then_ct, r_asg, r_asgT, r_aug, r_app, r_ext, r_ins, r_clr, r_item, r_if, r_for, r_forN, fo_list, q_rev, rv_list, r_ret, r_retV, r_retN, r_brk, r_ct, r_drop, q_var, q_c, q_bin, q_neg, q_not, q_and, q_or, q_if, q_nil, q_cons, q_tup, q_lst, q_ix, q_step, step_list, q_ssc, q_opt0, q_opt1, q_sl, q_call, q_isi, q_tB, q_tVal, q_tNot, q_tAnd, q_tOr, q_tYes, q_chain, q_seq, q_range1, v_dict, frzS_nil, frzS_cons, fz1_d, fz1_o, fz1_n, q_join, q_split, q_dec, dec_str, tup_rl, f_str, f_tuple, f_int, out_retS, stv_list, r_newK, it_k, th_k, hd_k, fz_k, fz1_k, list_k, q_inT, q_getT, it_int, it_str, gt_str, any_int, r_star, stv_tup, q_zip, sq_list, sq_tup, q_range2, r2_int, sl_tup, q_inT, q_getT, it_int, it_str, gt_str, any_int, r_star, stv_tup, q_zip, sq_list, sq_tup, q_range2, r2_int, sl_tup, v_list, v_listF, v_int, v_bool, v_str, v_none, v_tup, aft_t, aft_f, mk_no, mk_yes, mk_call, ret_list, ret_no, ret_int, ret_bool, ret_str, ret_none, ret_tup, retSv_own, retSv_d, o_add, o_sub, o_mul, o_fdiv, o_mod, o_pow, o_lt, o_le, o_gt, o_ge, o_eqI, o_neI, o_eqB, o_neB, o_addL, b_bool, x_list, x_tup, at0, at1, at2, at3, at4, at5, at6, at7, at_last, atN, len_l, len_t, len_s, max_r, min_r, list_r, f_len, f_list, f_max, f_min, f_sorted, f_sum, f_any, out_ret, out_retB, out_retL, out_retT, th_d, th_o, th_n, hd_d, hd_o, hd_n, thawS_nil, thawS_cons, hideS_nil, hideS_cons, frzL_nil, frzL_cons, frzAt_eq, fz_own, fz_d, fz_n, fl_int, fl_bool, fl_str, fl_tup, fls_nil, fls_cons, fls_app, fls_ints, tg1, tg2, tx1, tx2, sv_nil, sv_cons, dn_nil, dn_cons, wd_nil, wd_cons, so_list, so_tup, ro_int, ng_int, ap_own, au_int, au_add, au_sub, tv_bool, tv_list, tv_int, Option.bind_some, Option.bind_none, Option.map_some, Option.map_none, Option.getD_some, Option.getD_none, Option.join_some, List.getElem?_cons_zero, List.getElem?_cons_succ, List.set_cons_zero, List.set_cons_succ, List.length_cons, List.length_nil, List.length_map, ite_true, ite_false, if_true, if_false, Bool.and_true, Bool.true_and, Bool.false_eq_true, decide_eq_true_eq, Bool.not_true, Bool.not_false, and_self, and_true, true_and, reduceIte, nin_ints, h, decide_true, decide_false, not_false_iff]
  have hne : ((List.range' 0 8).filter fun i : Nat => decide ((1 + (i : Int)) ∉ fl)) ≠ [] := fun h => by
    obtain ⟨i, hi, hn⟩ := pigeon 8 fl (by omega)
    have hm : i ∈ (List.range' 0 8).filter fun i : Nat => decide ((1 + (i : Int)) ∉ fl) := List.mem_filter.mpr ⟨List.mem_range'_1.mpr (by omega), decide_eq_true hn⟩
    rw [h] at hm
    cases hm
  obtain ⟨i, r, hir⟩ := List.exists_cons_of_ne_nil hne
  have hi : i ∈ (List.range' 0 8).filter fun i : Nat => decide ((1 + (i : Int)) ∉ fl) := by rw [hir]; exact List.mem_cons_self
  rw [hir, List.map_cons] at hlc
  have hr : (9 : Int) ≤ 1000000000 ∧ -1000000000 ≤ (9 : Int) ∧ (1 : Int) ≤ 1000000000 ∧ -1000000000 ≤ (1 : Int) := by decide
  have h8 : ((9 : Int) - 1).toNat = 8 := rfl
  have l8 : (List.range' 0 8).length ≤ lim := by rw [List.length_range', lim_eq]; omega
  refine ⟨1 + (i : Int), of_decide_eq_true (List.mem_filter.mp hi).2, ?_⟩
  simp only [q_ix, q_lc, q_range2, q_c, Option.bind_some, r2_int, if_pos hr, range_from, h8, List.length_map, if_pos l8, hlc, Option.map_some, x_list, at0]
theorem filter_ne (x : Int) : ∀ {l : List Int}, l.Nodup → l.length ≤ (l.filter fun y => decide (y ≠ x)).length + 1
  | [], _ => by simp
  | y :: l, h => by
    have hy := List.nodup_cons.mp h
    rw [List.filter_cons]
    by_cases e : y = x
    · subst e
      rw [if_neg (by simp)]
      have : l.filter (fun z => decide (z ≠ y)) = l := List.filter_eq_self.mpr fun z hz => decide_eq_true fun e => hy.1 (e ▸ hz)
      rw [this, List.length_cons]
      exact Nat.le_refl _
    · rw [if_pos (decide_eq_true e), List.length_cons, List.length_cons]
      have := filter_ne x hy.2
      omega
theorem other_val (fl : List Int) (st one d7 : Int) (ds : List D) (h1 : 0 < fl.length) (hl : fl.length ≤ 4) (hn : (fl ++ [st]).Nodup) (hd : atI ds 7 = some (.int d7)) (x0 x2 x4 x5 x6 x7 x10 x11 x12 x13 x14 x15 x16 x17 : Option D) : ∃ other : Int, eIx (eLc [17] (.one 17) (iSeq (eBin .add (eVar 3) (eLst (aCons (eVar 8) aNil)))) (tB (eBin .ne (eVar 17) (eVar 9))) (eVar 17)) (eBin .mod (eIx (eVar 1) (eC (.int 7))) (eCall 0 (aCons (eVar 3) aNil))) F11 [x0, some (.list ds), x2, some (.list (fl.map PyData.int)), x4, x5, x6, x7, some (.int st), some (.int one), x10, x11, x12, x13, x14, x15, x16, x17] = some (.int other) := by
  have hlc := lcD_map (f := lcTurn (.one 17) [17] (tB (eBin .ne (eVar 17) (eVar 9))) (eVar 17) F11 [x0, some (.list ds), x2, some (.list (fl.map PyData.int)), x4, x5, x6, x7, some (.int st), some (.int one), x10, x11, x12, x13, x14, x15, x16, x17]) (g := PyData.int) (h := PyData.int) (p := fun y => decide (y ≠ one)) (zs := fl ++ [st]) fun y _ => by
    rw [q_turn]
    by_cases h : y = one
    · simp only [s_seq, s_nil, then_nx, then_ret, then_brk, then_ct, r_asg, r_asgT, r_aug, r_app, r_ext, r_ins, r_clr, r_item, r_if, r_for, r_forN, fo_list, q_rev, rv_list, r_ret, r_retV, r_retN, r_brk, r_ct, r_drop, q_var, q_c, q_bin, q_neg, q_not, q_and, q_or, q_if, q_nil, q_cons, q_tup, q_lst, q_ix, q_step, step_list, q_ssc, q_opt0, q_opt1, q_sl, q_call, q_isi, q_tB, q_tVal, q_tNot, q_tAnd, q_tOr, q_tYes, q_chain, q_seq, q_range1, v_dict, frzS_nil, frzS_cons, fz1_d, fz1_o, fz1_n, q_join, q_split, q_dec, dec_str, tup_rl, f_str, f_tuple, f_int, out_retS, stv_list, r_newK, it_k, th_k, hd_k, fz_k, fz1_k, list_k, q_inT, q_getT, it_int, it_str, gt_str, any_int, r_star, stv_tup, q_zip, sq_list, sq_tup, q_range2, r2_int, sl_tup, q_inT, q_getT, it_int, it_str, gt_str, any_int, r_star, stv_tup, q_zip, sq_list, sq_tup, q_range2, r2_int, sl_tup, v_list, v_listF, v_int, v_bool, v_str, v_none, v_tup, aft_t, aft_f, mk_no, mk_yes, mk_call, ret_list, ret_no, ret_int, ret_bool, ret_str, ret_none, ret_tup, retSv_own, retSv_d, o_add, o_sub, o_mul, o_fdiv, o_mod, o_pow, o_lt, o_le, o_gt, o_ge, o_eqI, o_neI, o_eqB, o_neB, o_addL, b_bool, x_list, x_tup, at0, at1, at2, at3, at4, at5, at6, at7, at_last, atN, len_l, len_t, len_s, max_r, min_r, list_r, f_len, f_list, f_max, f_min, f_sorted, f_sum, f_any, out_ret, out_retB, out_retL, out_retT, th_d, th_o, th_n, hd_d, hd_o, hd_n, thawS_nil, thawS_cons, hideS_nil, hideS_cons, frzL_nil, frzL_cons, frzAt_eq, fz_own, fz_d, fz_n, fl_int, fl_bool, fl_str, fl_tup, fls_nil, fls_cons, fls_app, fls_ints, tg1, tg2, tx1, tx2, sv_nil, sv_cons, dn_nil, dn_cons, wd_nil, wd_cons, so_list, so_tup, ro_int, ng_int, ap_own, au_int, au_add, au_sub, tv_bool, tv_list, tv_int, Option.bind_some, Option.bind_none, Option.map_some, Option.map_none, Option.getD_some, Option.getD_none, Option.join_some, List.getElem?_cons_zero, List.getElem?_cons_succ, List.set_cons_zero, List.set_cons_succ, List.length_cons, List.length_nil, List.length_map, ite_true, ite_false, if_true, if_false, Bool.and_true, Bool.true_and, Bool.false_eq_true, decide_eq_true_eq, Bool.not_true, Bool.not_false, and_self, and_true, true_and, reduceIte, h, decide_true, decide_false, eq_self, not_true, ne_eq]
    · simp only [s_seq, s_nil, then_nx, then_ret, then_brk, then_ct, r_asg, r_asgT, r_aug, r_app, r_ext, r_ins, r_clr, r_item, r_if, r_for, r_forN, fo_list, q_rev, rv_list, r_ret, r_retV, r_retN, r_brk, r_ct, r_drop, q_var, q_c, q_bin, q_neg, q_not, q_and, q_or, q_if, q_nil, q_cons, q_tup, q_lst, q_ix, q_step, step_list, q_ssc, q_opt0, q_opt1, q_sl, q_call, q_isi, q_tB, q_tVal, q_tNot, q_tAnd, q_tOr, q_tYes, q_chain, q_seq, q_range1, v_dict, frzS_nil, frzS_cons, fz1_d, fz1_o, fz1_n, q_join, q_split, q_dec, dec_str, tup_rl, f_str, f_tuple, f_int, out_retS, stv_list, r_newK, it_k, th_k, hd_k, fz_k, fz1_k, list_k, q_inT, q_getT, it_int, it_str, gt_str, any_int, r_star, stv_tup, q_zip, sq_list, sq_tup, q_range2, r2_int, sl_tup, q_inT, q_getT, it_int, it_str, gt_str, any_int, r_star, stv_tup, q_zip, sq_list, sq_tup, q_range2, r2_int, sl_tup, v_list, v_listF, v_int, v_bool, v_str, v_none, v_tup, aft_t, aft_f, mk_no, mk_yes, mk_call, ret_list, ret_no, ret_int, ret_bool, ret_str, ret_none, ret_tup, retSv_own, retSv_d, o_add, o_sub, o_mul, o_fdiv, o_mod, o_pow, o_lt, o_le, o_gt, o_ge, o_eqI, o_neI, o_eqB, o_neB, o_addL, b_bool, x_list, x_tup, at0, at1, at2, at3, at4, at5, at6, at7, at_last, atN, len_l, len_t, len_s, max_r, min_r, list_r, f_len, f_list, f_max, f_min, f_sorted, f_sum, f_any, out_ret, out_retB, out_retL, out_retT, th_d, th_o, th_n, hd_d, hd_o, hd_n, thawS_nil, thawS_cons, hideS_nil, hideS_cons, frzL_nil, frzL_cons, frzAt_eq, fz_own, fz_d, fz_n, fl_int, fl_bool, fl_str, fl_tup, fls_nil, fls_cons, fls_app, fls_ints, tg1, tg2, tx1, tx2, sv_nil, sv_cons, dn_nil, dn_cons, wd_nil, wd_cons, so_list, so_tup, ro_int, ng_int, ap_own, au_int, au_add, au_sub, tv_bool, tv_list, tv_int, Option.bind_some, Option.bind_none, Option.map_some, Option.map_none, Option.getD_some, Option.getD_none, Option.join_some, List.getElem?_cons_zero, List.getElem?_cons_succ, List.set_cons_zero, List.set_cons_succ, List.length_cons, List.length_nil, List.length_map, ite_true, ite_false, if_true, if_false, Bool.and_true, Bool.true_and, Bool.false_eq_true, decide_eq_true_eq, Bool.not_true, Bool.not_false, and_self, and_true, true_and, reduceIte, h, decide_true, decide_false, eq_self, not_false_iff, ne_eq]
  rw [List.map_append, List.map_cons, List.map_nil] at hlc
  have hf := filter_ne one hn
  rw [List.length_append, List.length_singleton] at hf
  have pf : (0 : Int) < (fl.length : Int) := by omega
  obtain ⟨o, _, eo⟩ := get_int (ns := (fl ++ [st]).filter fun y => decide (y ≠ one)) (i := d7 % (fl.length : Int)) (Int.emod_nonneg _ (by omega)) (by
    have := Int.emod_lt_of_pos d7 pf
    omega)
  have l1 : (1 : Nat) ≤ lim := by rw [lim_eq]; omega
  have lf : fl.length + 1 ≤ lim := by rw [lim_eq]; omega
  refine ⟨o, ?_⟩
  simp only [s_seq, s_nil, then_nx, then_ret, then_brk, then_ct, r_asg, r_asgT, r_aug, r_app, r_ext, r_ins, r_clr, r_item, r_if, r_for, r_forN, fo_list, q_rev, rv_list, r_ret, r_retV, r_retN, r_brk, r_ct, r_drop, q_var, q_c, q_bin, q_neg, q_not, q_and, q_or, q_if, q_nil, q_cons, q_tup, q_lst, q_ix, q_step, step_list, q_ssc, q_opt0, q_opt1, q_sl, q_call, q_isi, q_tB, q_tVal, q_tNot, q_tAnd, q_tOr, q_tYes, q_chain, q_seq, q_range1, v_dict, frzS_nil, frzS_cons, fz1_d, fz1_o, fz1_n, q_join, q_split, q_dec, dec_str, tup_rl, f_str, f_tuple, f_int, out_retS, stv_list, r_newK, it_k, th_k, hd_k, fz_k, fz1_k, list_k, q_inT, q_getT, it_int, it_str, gt_str, any_int, r_star, stv_tup, q_zip, sq_list, sq_tup, q_range2, r2_int, sl_tup, q_inT, q_getT, it_int, it_str, gt_str, any_int, r_star, stv_tup, q_zip, sq_list, sq_tup, q_range2, r2_int, sl_tup, v_list, v_listF, v_int, v_bool, v_str, v_none, v_tup, aft_t, aft_f, mk_no, mk_yes, mk_call, ret_list, ret_no, ret_int, ret_bool, ret_str, ret_none, ret_tup, retSv_own, retSv_d, o_add, o_sub, o_mul, o_fdiv, o_mod, o_pow, o_lt, o_le, o_gt, o_ge, o_eqI, o_neI, o_eqB, o_neB, o_addL, b_bool, x_list, x_tup, at0, at1, at2, at3, at4, at5, at6, at7, at_last, atN, len_l, len_t, len_s, max_r, min_r, list_r, f_len, f_list, f_max, f_min, f_sorted, f_sum, f_any, out_ret, out_retB, out_retL, out_retT, th_d, th_o, th_n, hd_d, hd_o, hd_n, thawS_nil, thawS_cons, hideS_nil, hideS_cons, frzL_nil, frzL_cons, frzAt_eq, fz_own, fz_d, fz_n, fl_int, fl_bool, fl_str, fl_tup, fls_nil, fls_cons, fls_app, fls_ints, tg1, tg2, tx1, tx2, sv_nil, sv_cons, dn_nil, dn_cons, wd_nil, wd_cons, so_list, so_tup, ro_int, ng_int, ap_own, au_int, au_add, au_sub, tv_bool, tv_list, tv_int, Option.bind_some, Option.bind_none, Option.map_some, Option.map_none, Option.getD_some, Option.getD_none, Option.join_some, List.getElem?_cons_zero, List.getElem?_cons_succ, List.set_cons_zero, List.set_cons_succ, List.length_cons, List.length_nil, List.length_map, ite_true, ite_false, if_true, if_false, Bool.and_true, Bool.true_and, Bool.false_eq_true, decide_eq_true_eq, Bool.not_true, Bool.not_false, and_self, and_true, true_and, reduceIte, q_lc, l1, lf, List.length_append, hlc, G_law_len, hd, pf, eo]
theorem mine_val (one : Int) (fs : List Ft) (hl : fs.length ≤ 1000) (hf : ∀ f ∈ fs, FtOk f) (x0 x1 x2 x3 x4 x5 x7 x8 x10 x11 x12 x13 x14 x15 x16 x17 : Option D) : eLc [13] (.one 13) (iSeq (eVar 6)) (tAnd (tB (eBin .ne (eIx (eVar 13) (eC (.int 1))) (eC (.str "bar")))) (tAnd (tB (eBin .ne (eIx (eVar 13) (eC (.int 1))) (eC (.str "walk")))) (tB (eBin .eq (eIx (eVar 13) (eC (.int 2))) (eVar 9))))) (eVar 13) F11 [x0, x1, x2, x3, x4, x5, some (.list (fs.map tD)), x7, x8, some (.int one), x10, x11, x12, x13, x14, x15, x16, x17] = some (.list ((fs.filter (isMine one)).map tD)) := by
  have hlc := lcD_map (f := lcTurn (.one 13) [13] (tAnd (tB (eBin .ne (eIx (eVar 13) (eC (.int 1))) (eC (.str "bar")))) (tAnd (tB (eBin .ne (eIx (eVar 13) (eC (.int 1))) (eC (.str "walk")))) (tB (eBin .eq (eIx (eVar 13) (eC (.int 2))) (eVar 9))))) (eVar 13) F11 [x0, x1, x2, x3, x4, x5, some (.list (fs.map tD)), x7, x8, some (.int one), x10, x11, x12, x13, x14, x15, x16, x17]) (g := tD) (h := tD) (p := isMine one) (zs := fs) fun f hm => by
    have hok := (hf f hm).ok
    rw [q_turn]
    unfold tD isMine
    by_cases h1 : f.w = "bar"
    · rw [h1]
      simp only [s_seq, s_nil, then_nx, then_ret, then_brk, then_ct, r_asg, r_asgT, r_aug, r_app, r_ext, r_ins, r_clr, r_item, r_if, r_for, r_forN, fo_list, q_rev, rv_list, r_ret, r_retV, r_retN, r_brk, r_ct, r_drop, q_var, q_c, q_bin, q_neg, q_not, q_and, q_or, q_if, q_nil, q_cons, q_tup, q_lst, q_ix, q_step, step_list, q_ssc, q_opt0, q_opt1, q_sl, q_call, q_isi, q_tB, q_tVal, q_tNot, q_tAnd, q_tOr, q_tYes, q_chain, q_seq, q_range1, v_dict, frzS_nil, frzS_cons, fz1_d, fz1_o, fz1_n, q_join, q_split, q_dec, dec_str, tup_rl, f_str, f_tuple, f_int, out_retS, stv_list, r_newK, it_k, th_k, hd_k, fz_k, fz1_k, list_k, q_inT, q_getT, it_int, it_str, gt_str, any_int, r_star, stv_tup, q_zip, sq_list, sq_tup, q_range2, r2_int, sl_tup, q_inT, q_getT, it_int, it_str, gt_str, any_int, r_star, stv_tup, q_zip, sq_list, sq_tup, q_range2, r2_int, sl_tup, v_list, v_listF, v_int, v_bool, v_str, v_none, v_tup, aft_t, aft_f, mk_no, mk_yes, mk_call, ret_list, ret_no, ret_int, ret_bool, ret_str, ret_none, ret_tup, retSv_own, retSv_d, o_add, o_sub, o_mul, o_fdiv, o_mod, o_pow, o_lt, o_le, o_gt, o_ge, o_eqI, o_neI, o_eqB, o_neB, o_addL, b_bool, x_list, x_tup, at0, at1, at2, at3, at4, at5, at6, at7, at_last, atN, len_l, len_t, len_s, max_r, min_r, list_r, f_len, f_list, f_max, f_min, f_sorted, f_sum, f_any, out_ret, out_retB, out_retL, out_retT, th_d, th_o, th_n, hd_d, hd_o, hd_n, thawS_nil, thawS_cons, hideS_nil, hideS_cons, frzL_nil, frzL_cons, frzAt_eq, fz_own, fz_d, fz_n, fl_int, fl_bool, fl_str, fl_tup, fls_nil, fls_cons, fls_app, fls_ints, tg1, tg2, tx1, tx2, sv_nil, sv_cons, dn_nil, dn_cons, wd_nil, wd_cons, so_list, so_tup, ro_int, ng_int, ap_own, au_int, au_add, au_sub, tv_bool, tv_list, tv_int, Option.bind_some, Option.bind_none, Option.map_some, Option.map_none, Option.getD_some, Option.getD_none, Option.join_some, List.getElem?_cons_zero, List.getElem?_cons_succ, List.set_cons_zero, List.set_cons_succ, List.length_cons, List.length_nil, List.length_map, ite_true, ite_false, if_true, if_false, Bool.and_true, Bool.true_and, Bool.false_eq_true, decide_eq_true_eq, Bool.not_true, Bool.not_false, and_self, and_true, true_and, reduceIte, o_neS ok_bar9 ok_bar9, eq_self, decide_true, decide_false, ne_eq, not_true, false_and]
    · by_cases h2 : f.w = "walk"
      · rw [h2] at h1 ⊢
        simp only [s_seq, s_nil, then_nx, then_ret, then_brk, then_ct, r_asg, r_asgT, r_aug, r_app, r_ext, r_ins, r_clr, r_item, r_if, r_for, r_forN, fo_list, q_rev, rv_list, r_ret, r_retV, r_retN, r_brk, r_ct, r_drop, q_var, q_c, q_bin, q_neg, q_not, q_and, q_or, q_if, q_nil, q_cons, q_tup, q_lst, q_ix, q_step, step_list, q_ssc, q_opt0, q_opt1, q_sl, q_call, q_isi, q_tB, q_tVal, q_tNot, q_tAnd, q_tOr, q_tYes, q_chain, q_seq, q_range1, v_dict, frzS_nil, frzS_cons, fz1_d, fz1_o, fz1_n, q_join, q_split, q_dec, dec_str, tup_rl, f_str, f_tuple, f_int, out_retS, stv_list, r_newK, it_k, th_k, hd_k, fz_k, fz1_k, list_k, q_inT, q_getT, it_int, it_str, gt_str, any_int, r_star, stv_tup, q_zip, sq_list, sq_tup, q_range2, r2_int, sl_tup, q_inT, q_getT, it_int, it_str, gt_str, any_int, r_star, stv_tup, q_zip, sq_list, sq_tup, q_range2, r2_int, sl_tup, v_list, v_listF, v_int, v_bool, v_str, v_none, v_tup, aft_t, aft_f, mk_no, mk_yes, mk_call, ret_list, ret_no, ret_int, ret_bool, ret_str, ret_none, ret_tup, retSv_own, retSv_d, o_add, o_sub, o_mul, o_fdiv, o_mod, o_pow, o_lt, o_le, o_gt, o_ge, o_eqI, o_neI, o_eqB, o_neB, o_addL, b_bool, x_list, x_tup, at0, at1, at2, at3, at4, at5, at6, at7, at_last, atN, len_l, len_t, len_s, max_r, min_r, list_r, f_len, f_list, f_max, f_min, f_sorted, f_sum, f_any, out_ret, out_retB, out_retL, out_retT, th_d, th_o, th_n, hd_d, hd_o, hd_n, thawS_nil, thawS_cons, hideS_nil, hideS_cons, frzL_nil, frzL_cons, frzAt_eq, fz_own, fz_d, fz_n, fl_int, fl_bool, fl_str, fl_tup, fls_nil, fls_cons, fls_app, fls_ints, tg1, tg2, tx1, tx2, sv_nil, sv_cons, dn_nil, dn_cons, wd_nil, wd_cons, so_list, so_tup, ro_int, ng_int, ap_own, au_int, au_add, au_sub, tv_bool, tv_list, tv_int, Option.bind_some, Option.bind_none, Option.map_some, Option.map_none, Option.getD_some, Option.getD_none, Option.join_some, List.getElem?_cons_zero, List.getElem?_cons_succ, List.set_cons_zero, List.set_cons_succ, List.length_cons, List.length_nil, List.length_map, ite_true, ite_false, if_true, if_false, Bool.and_true, Bool.true_and, Bool.false_eq_true, decide_eq_true_eq, Bool.not_true, Bool.not_false, and_self, and_true, true_and, reduceIte, o_neS ok_walk9 ok_bar9, o_neS ok_walk9 ok_walk9, h1, eq_self, decide_true, decide_false, ne_eq, not_true, and_false, false_and]
      · by_cases h3 : f.a = one
        · simp only [s_seq, s_nil, then_nx, then_ret, then_brk, then_ct, r_asg, r_asgT, r_aug, r_app, r_ext, r_ins, r_clr, r_item, r_if, r_for, r_forN, fo_list, q_rev, rv_list, r_ret, r_retV, r_retN, r_brk, r_ct, r_drop, q_var, q_c, q_bin, q_neg, q_not, q_and, q_or, q_if, q_nil, q_cons, q_tup, q_lst, q_ix, q_step, step_list, q_ssc, q_opt0, q_opt1, q_sl, q_call, q_isi, q_tB, q_tVal, q_tNot, q_tAnd, q_tOr, q_tYes, q_chain, q_seq, q_range1, v_dict, frzS_nil, frzS_cons, fz1_d, fz1_o, fz1_n, q_join, q_split, q_dec, dec_str, tup_rl, f_str, f_tuple, f_int, out_retS, stv_list, r_newK, it_k, th_k, hd_k, fz_k, fz1_k, list_k, q_inT, q_getT, it_int, it_str, gt_str, any_int, r_star, stv_tup, q_zip, sq_list, sq_tup, q_range2, r2_int, sl_tup, q_inT, q_getT, it_int, it_str, gt_str, any_int, r_star, stv_tup, q_zip, sq_list, sq_tup, q_range2, r2_int, sl_tup, v_list, v_listF, v_int, v_bool, v_str, v_none, v_tup, aft_t, aft_f, mk_no, mk_yes, mk_call, ret_list, ret_no, ret_int, ret_bool, ret_str, ret_none, ret_tup, retSv_own, retSv_d, o_add, o_sub, o_mul, o_fdiv, o_mod, o_pow, o_lt, o_le, o_gt, o_ge, o_eqI, o_neI, o_eqB, o_neB, o_addL, b_bool, x_list, x_tup, at0, at1, at2, at3, at4, at5, at6, at7, at_last, atN, len_l, len_t, len_s, max_r, min_r, list_r, f_len, f_list, f_max, f_min, f_sorted, f_sum, f_any, out_ret, out_retB, out_retL, out_retT, th_d, th_o, th_n, hd_d, hd_o, hd_n, thawS_nil, thawS_cons, hideS_nil, hideS_cons, frzL_nil, frzL_cons, frzAt_eq, fz_own, fz_d, fz_n, fl_int, fl_bool, fl_str, fl_tup, fls_nil, fls_cons, fls_app, fls_ints, tg1, tg2, tx1, tx2, sv_nil, sv_cons, dn_nil, dn_cons, wd_nil, wd_cons, so_list, so_tup, ro_int, ng_int, ap_own, au_int, au_add, au_sub, tv_bool, tv_list, tv_int, Option.bind_some, Option.bind_none, Option.map_some, Option.map_none, Option.getD_some, Option.getD_none, Option.join_some, List.getElem?_cons_zero, List.getElem?_cons_succ, List.set_cons_zero, List.set_cons_succ, List.length_cons, List.length_nil, List.length_map, ite_true, ite_false, if_true, if_false, Bool.and_true, Bool.true_and, Bool.false_eq_true, decide_eq_true_eq, Bool.not_true, Bool.not_false, and_self, and_true, true_and, reduceIte, o_neS hok ok_bar9, o_neS hok ok_walk9, h1, h2, h3, eq_self, decide_true, decide_false, ne_eq, not_false_iff]
        · simp only [s_seq, s_nil, then_nx, then_ret, then_brk, then_ct, r_asg, r_asgT, r_aug, r_app, r_ext, r_ins, r_clr, r_item, r_if, r_for, r_forN, fo_list, q_rev, rv_list, r_ret, r_retV, r_retN, r_brk, r_ct, r_drop, q_var, q_c, q_bin, q_neg, q_not, q_and, q_or, q_if, q_nil, q_cons, q_tup, q_lst, q_ix, q_step, step_list, q_ssc, q_opt0, q_opt1, q_sl, q_call, q_isi, q_tB, q_tVal, q_tNot, q_tAnd, q_tOr, q_tYes, q_chain, q_seq, q_range1, v_dict, frzS_nil, frzS_cons, fz1_d, fz1_o, fz1_n, q_join, q_split, q_dec, dec_str, tup_rl, f_str, f_tuple, f_int, out_retS, stv_list, r_newK, it_k, th_k, hd_k, fz_k, fz1_k, list_k, q_inT, q_getT, it_int, it_str, gt_str, any_int, r_star, stv_tup, q_zip, sq_list, sq_tup, q_range2, r2_int, sl_tup, q_inT, q_getT, it_int, it_str, gt_str, any_int, r_star, stv_tup, q_zip, sq_list, sq_tup, q_range2, r2_int, sl_tup, v_list, v_listF, v_int, v_bool, v_str, v_none, v_tup, aft_t, aft_f, mk_no, mk_yes, mk_call, ret_list, ret_no, ret_int, ret_bool, ret_str, ret_none, ret_tup, retSv_own, retSv_d, o_add, o_sub, o_mul, o_fdiv, o_mod, o_pow, o_lt, o_le, o_gt, o_ge, o_eqI, o_neI, o_eqB, o_neB, o_addL, b_bool, x_list, x_tup, at0, at1, at2, at3, at4, at5, at6, at7, at_last, atN, len_l, len_t, len_s, max_r, min_r, list_r, f_len, f_list, f_max, f_min, f_sorted, f_sum, f_any, out_ret, out_retB, out_retL, out_retT, th_d, th_o, th_n, hd_d, hd_o, hd_n, thawS_nil, thawS_cons, hideS_nil, hideS_cons, frzL_nil, frzL_cons, frzAt_eq, fz_own, fz_d, fz_n, fl_int, fl_bool, fl_str, fl_tup, fls_nil, fls_cons, fls_app, fls_ints, tg1, tg2, tx1, tx2, sv_nil, sv_cons, dn_nil, dn_cons, wd_nil, wd_cons, so_list, so_tup, ro_int, ng_int, ap_own, au_int, au_add, au_sub, tv_bool, tv_list, tv_int, Option.bind_some, Option.bind_none, Option.map_some, Option.map_none, Option.getD_some, Option.getD_none, Option.join_some, List.getElem?_cons_zero, List.getElem?_cons_succ, List.set_cons_zero, List.set_cons_succ, List.length_cons, List.length_nil, List.length_map, ite_true, ite_false, if_true, if_false, Bool.and_true, Bool.true_and, Bool.false_eq_true, decide_eq_true_eq, Bool.not_true, Bool.not_false, and_self, and_true, true_and, reduceIte, o_neS hok ok_bar9, o_neS hok ok_walk9, h1, h2, h3, eq_self, decide_true, decide_false, ne_eq, not_false_iff, and_false]
  have lf : fs.length ≤ lim := by rw [lim_eq]; omega
  simp only [s_seq, s_nil, then_nx, then_ret, then_brk, then_ct, r_asg, r_asgT, r_aug, r_app, r_ext, r_ins, r_clr, r_item, r_if, r_for, r_forN, fo_list, q_rev, rv_list, r_ret, r_retV, r_retN, r_brk, r_ct, r_drop, q_var, q_c, q_bin, q_neg, q_not, q_and, q_or, q_if, q_nil, q_cons, q_tup, q_lst, q_ix, q_step, step_list, q_ssc, q_opt0, q_opt1, q_sl, q_call, q_isi, q_tB, q_tVal, q_tNot, q_tAnd, q_tOr, q_tYes, q_chain, q_seq, q_range1, v_dict, frzS_nil, frzS_cons, fz1_d, fz1_o, fz1_n, q_join, q_split, q_dec, dec_str, tup_rl, f_str, f_tuple, f_int, out_retS, stv_list, r_newK, it_k, th_k, hd_k, fz_k, fz1_k, list_k, q_inT, q_getT, it_int, it_str, gt_str, any_int, r_star, stv_tup, q_zip, sq_list, sq_tup, q_range2, r2_int, sl_tup, q_inT, q_getT, it_int, it_str, gt_str, any_int, r_star, stv_tup, q_zip, sq_list, sq_tup, q_range2, r2_int, sl_tup, v_list, v_listF, v_int, v_bool, v_str, v_none, v_tup, aft_t, aft_f, mk_no, mk_yes, mk_call, ret_list, ret_no, ret_int, ret_bool, ret_str, ret_none, ret_tup, retSv_own, retSv_d, o_add, o_sub, o_mul, o_fdiv, o_mod, o_pow, o_lt, o_le, o_gt, o_ge, o_eqI, o_neI, o_eqB, o_neB, o_addL, b_bool, x_list, x_tup, at0, at1, at2, at3, at4, at5, at6, at7, at_last, atN, len_l, len_t, len_s, max_r, min_r, list_r, f_len, f_list, f_max, f_min, f_sorted, f_sum, f_any, out_ret, out_retB, out_retL, out_retT, th_d, th_o, th_n, hd_d, hd_o, hd_n, thawS_nil, thawS_cons, hideS_nil, hideS_cons, frzL_nil, frzL_cons, frzAt_eq, fz_own, fz_d, fz_n, fl_int, fl_bool, fl_str, fl_tup, fls_nil, fls_cons, fls_app, fls_ints, tg1, tg2, tx1, tx2, sv_nil, sv_cons, dn_nil, dn_cons, wd_nil, wd_cons, so_list, so_tup, ro_int, ng_int, ap_own, au_int, au_add, au_sub, tv_bool, tv_list, tv_int, Option.bind_some, Option.bind_none, Option.map_some, Option.map_none, Option.getD_some, Option.getD_none, Option.join_some, List.getElem?_cons_zero, List.getElem?_cons_succ, List.set_cons_zero, List.set_cons_succ, List.length_cons, List.length_nil, List.length_map, ite_true, ite_false, if_true, if_false, Bool.and_true, Bool.true_and, Bool.false_eq_true, decide_eq_true_eq, Bool.not_true, Bool.not_false, and_self, and_true, true_and, reduceIte, q_lc, lf, hlc]
theorem clr_o9 {i : Nat} {sv : SE} {xs : List D} : clrV i sv (some (.own xs)) = some (.nx (sv.set i (some (.own [])))) := rfl
theorem at7 {a b c d e f g h : D} {r : List D} : atI (a :: b :: c :: d :: e :: f :: g :: h :: r) 7 = some h := atN (n := 7)
theorem turn_k (one other : Int) (fs : List Ft) (hl : fs.length < 64) (hf : ∀ f ∈ fs, FtOk f) (x0 x1 x2 x3 x4 x6 x7 x8 x13 x14 x15 x16 x17 : Option Sv) : ∃ y7 y15, b_law_1 F11 [x0, x1, x2, x3, x4, some (.own (fs.map tD)), x6, x7, x8, some (.d (.int one)), some (.d (.int other)), some (.own (((srt fs).filter (isMine one)).map tD)), some (.own ((nubS ((fs.filter (isWalk one other)).map (·.day))).map PyData.int)), x13, x14, x15, x16, x17] = some (.nx [x0, x1, x2, x3, x4, some (.own (fs.map tD)), x6, y7, x8, some (.d (.int one)), some (.d (.int other)), some (.own (((srt fs).filter (isMine one)).map tD)), some (.own ((nubS ((fs.filter (isWalk one other)).map (·.day))).map PyData.int)), x13, x14, y15, x16, x17]) := by
  have e1 := r_of_field one fs (by omega) hf
  rw [srt_filter] at e1
  have e2 := r_walks one other fs hl hf
  have e3 := like_facts ((srt fs).filter (isMine one)) fun f h => srt_ok hf f (List.mem_filter.mp h).1
  generalize hz : nubS ((fs.filter (isWalk one other)).map (·.day)) = zs at e2 ⊢
  have e4 := like_ints zs
  have hzl : zs.length ≤ 100 := by
    have h1 : ∀ k r, (insU k r).length ≤ r.length + 1 := fun k r => by
      induction r with
      | nil => exact Nat.le_refl _
      | cons x r ih =>
        unfold insU
        split
        · exact Nat.le_refl _
        · split
          · omega
          · rw [List.length_cons, List.length_cons]
            omega
    have h2 : ∀ ns : List Int, (nubS ns).length ≤ ns.length := fun ns => by
      induction ns with
      | nil => exact Nat.le_refl _
      | cons n ns ih =>
        have := h1 n (nubS ns)
        show (insU n (nubS ns)).length ≤ _
        rw [List.length_cons]
        omega
    have h3 := h2 ((fs.filter (isWalk one other)).map (·.day))
    rw [hz, List.length_map] at h3
    have h4 : (fs.filter (isWalk one other)).length ≤ fs.length := List.length_filter_le _ _
    omega
  have hzlim : zs.length < lim := by rw [lim_eq]; omega
  have f1 : flats (((srt fs).filter (isMine one)).map tD) = true := fls_map tD_flat _
  refine ⟨some (.own []), some (.own (zs.map PyData.int ++ [.int (-1)])), ?_⟩
  simp only [s_seq, s_nil, then_nx, then_ret, then_brk, then_ct, r_asg, r_asgT, r_aug, r_app, r_ext, r_ins, r_clr, r_item, r_if, r_for, r_forN, fo_list, q_rev, rv_list, r_ret, r_retV, r_retN, r_brk, r_ct, r_drop, q_var, q_c, q_bin, q_neg, q_not, q_and, q_or, q_if, q_nil, q_cons, q_tup, q_lst, q_ix, q_step, step_list, q_ssc, q_opt0, q_opt1, q_sl, q_call, q_isi, q_tB, q_tVal, q_tNot, q_tAnd, q_tOr, q_tYes, q_chain, q_seq, q_range1, v_dict, frzS_nil, frzS_cons, fz1_d, fz1_o, fz1_n, q_join, q_split, q_dec, dec_str, tup_rl, f_str, f_tuple, f_int, out_retS, stv_list, r_newK, it_k, th_k, hd_k, fz_k, fz1_k, list_k, q_inT, q_getT, it_int, it_str, gt_str, any_int, r_star, stv_tup, q_zip, sq_list, sq_tup, q_range2, r2_int, sl_tup, q_inT, q_getT, it_int, it_str, gt_str, any_int, r_star, stv_tup, q_zip, sq_list, sq_tup, q_range2, r2_int, sl_tup, v_list, v_listF, v_int, v_bool, v_str, v_none, v_tup, aft_t, aft_f, mk_no, mk_yes, mk_call, ret_list, ret_no, ret_int, ret_bool, ret_str, ret_none, ret_tup, retSv_own, retSv_d, o_add, o_sub, o_mul, o_fdiv, o_mod, o_pow, o_lt, o_le, o_gt, o_ge, o_eqI, o_neI, o_eqB, o_neB, o_addL, b_bool, x_list, x_tup, at0, at1, at2, at3, at4, at5, at6, at7, at_last, atN, len_l, len_t, len_s, max_r, min_r, list_r, f_len, f_list, f_max, f_min, f_sorted, f_sum, f_any, out_ret, out_retB, out_retL, out_retT, th_d, th_o, th_n, hd_d, hd_o, hd_n, thawS_nil, thawS_cons, hideS_nil, hideS_cons, frzL_nil, frzL_cons, frzAt_eq, fz_own, fz_d, fz_n, fl_int, fl_bool, fl_str, fl_tup, fls_nil, fls_cons, fls_app, fls_ints, tg1, tg2, tx1, tx2, sv_nil, sv_cons, dn_nil, dn_cons, wd_nil, wd_cons, so_list, so_tup, ro_int, ng_int, ap_own, au_int, au_add, au_sub, tv_bool, tv_list, tv_int, Option.bind_some, Option.bind_none, Option.map_some, Option.map_none, Option.getD_some, Option.getD_none, Option.join_some, List.getElem?_cons_zero, List.getElem?_cons_succ, List.set_cons_zero, List.set_cons_succ, List.length_cons, List.length_nil, List.length_map, ite_true, ite_false, if_true, if_false, Bool.and_true, Bool.true_and, Bool.false_eq_true, decide_eq_true_eq, Bool.not_true, Bool.not_false, and_self, and_true, true_and, reduceIte, B_law_1, G_law_of_field, e1, fr_of_field, f1, G_law_walks, e2, fr_walks, G_law_like, e3, e4, hzlim, clr_o9]
theorem law_end (d0 d1 d2 d3 d4 d5 d6 d7 d8 d9 : Int) (fl : List Int) (h1 : 2 ≤ fl.length) (hl4 : fl.length ≤ 4) (hnd : fl.Nodup) (a6 : 0 ≤ d6) (fs : List Ft) (hl : fs.length < 64) (hf : ∀ f ∈ fs, FtOk f) (x0 x2 : Option Sv) : outD true (d_law_5 F11 [x0, some (.own [.int d0, .int d1, .int d2, .int d3, .int d4, .int d5, .int d6, .int d7, .int d8, .int d9]), x2, some (.own (fl.map PyData.int)), some (.own (fs.map tD)), none, none, none, none, none, none, none, none, none, none, none, none, none]) = some (.bool true) := by
  have hfl : flats (fs.map tD) = true := fls_map tD_flat fs
  have hfs : flats ((srt fs).map tD) = true := fls_map tD_flat _
  have e1 := r_sorted fs hf (by omega)
  have e2 := r_in_order fs hf (by omega)
  have e3 := like_facts (srt fs) (srt_ok hf)
  have e4 := ne_facts fs hf
  simp only [s_seq, s_nil, then_nx, then_ret, then_brk, then_ct, r_asg, r_asgT, r_aug, r_app, r_ext, r_ins, r_clr, r_item, r_if, r_for, r_forN, fo_list, q_rev, rv_list, r_ret, r_retV, r_retN, r_brk, r_ct, r_drop, q_var, q_c, q_bin, q_neg, q_not, q_and, q_or, q_if, q_nil, q_cons, q_tup, q_lst, q_ix, q_step, step_list, q_ssc, q_opt0, q_opt1, q_sl, q_call, q_isi, q_tB, q_tVal, q_tNot, q_tAnd, q_tOr, q_tYes, q_chain, q_seq, q_range1, v_dict, frzS_nil, frzS_cons, fz1_d, fz1_o, fz1_n, q_join, q_split, q_dec, dec_str, tup_rl, f_str, f_tuple, f_int, out_retS, stv_list, r_newK, it_k, th_k, hd_k, fz_k, fz1_k, list_k, q_inT, q_getT, it_int, it_str, gt_str, any_int, r_star, stv_tup, q_zip, sq_list, sq_tup, q_range2, r2_int, sl_tup, q_inT, q_getT, it_int, it_str, gt_str, any_int, r_star, stv_tup, q_zip, sq_list, sq_tup, q_range2, r2_int, sl_tup, v_list, v_listF, v_int, v_bool, v_str, v_none, v_tup, aft_t, aft_f, mk_no, mk_yes, mk_call, ret_list, ret_no, ret_int, ret_bool, ret_str, ret_none, ret_tup, retSv_own, retSv_d, o_add, o_sub, o_mul, o_fdiv, o_mod, o_pow, o_lt, o_le, o_gt, o_ge, o_eqI, o_neI, o_eqB, o_neB, o_addL, b_bool, x_list, x_tup, at0, at1, at2, at3, at4, at5, at6, at7, at_last, atN, len_l, len_t, len_s, max_r, min_r, list_r, f_len, f_list, f_max, f_min, f_sorted, f_sum, f_any, out_ret, out_retB, out_retL, out_retT, th_d, th_o, th_n, hd_d, hd_o, hd_n, thawS_nil, thawS_cons, hideS_nil, hideS_cons, frzL_nil, frzL_cons, frzAt_eq, fz_own, fz_d, fz_n, fl_int, fl_bool, fl_str, fl_tup, fls_nil, fls_cons, fls_app, fls_ints, tg1, tg2, tx1, tx2, sv_nil, sv_cons, dn_nil, dn_cons, wd_nil, wd_cons, so_list, so_tup, ro_int, ng_int, ap_own, au_int, au_add, au_sub, tv_bool, tv_list, tv_int, Option.bind_some, Option.bind_none, Option.map_some, Option.map_none, Option.getD_some, Option.getD_none, Option.join_some, List.getElem?_cons_zero, List.getElem?_cons_succ, List.set_cons_zero, List.set_cons_succ, List.length_cons, List.length_nil, List.length_map, ite_true, ite_false, if_true, if_false, Bool.and_true, Bool.true_and, Bool.false_eq_true, decide_eq_true_eq, Bool.not_true, Bool.not_false, and_self, and_true, true_and, reduceIte, D_law_5, G_law_list, hfl]
  simp only [s_seq, s_nil, then_nx, then_ret, then_brk, then_ct, r_asg, r_asgT, r_aug, r_app, r_ext, r_ins, r_clr, r_item, r_if, r_for, r_forN, fo_list, q_rev, rv_list, r_ret, r_retV, r_retN, r_brk, r_ct, r_drop, q_var, q_c, q_bin, q_neg, q_not, q_and, q_or, q_if, q_nil, q_cons, q_tup, q_lst, q_ix, q_step, step_list, q_ssc, q_opt0, q_opt1, q_sl, q_call, q_isi, q_tB, q_tVal, q_tNot, q_tAnd, q_tOr, q_tYes, q_chain, q_seq, q_range1, v_dict, frzS_nil, frzS_cons, fz1_d, fz1_o, fz1_n, q_join, q_split, q_dec, dec_str, tup_rl, f_str, f_tuple, f_int, out_retS, stv_list, r_newK, it_k, th_k, hd_k, fz_k, fz1_k, list_k, q_inT, q_getT, it_int, it_str, gt_str, any_int, r_star, stv_tup, q_zip, sq_list, sq_tup, q_range2, r2_int, sl_tup, q_inT, q_getT, it_int, it_str, gt_str, any_int, r_star, stv_tup, q_zip, sq_list, sq_tup, q_range2, r2_int, sl_tup, v_list, v_listF, v_int, v_bool, v_str, v_none, v_tup, aft_t, aft_f, mk_no, mk_yes, mk_call, ret_list, ret_no, ret_int, ret_bool, ret_str, ret_none, ret_tup, retSv_own, retSv_d, o_add, o_sub, o_mul, o_fdiv, o_mod, o_pow, o_lt, o_le, o_gt, o_ge, o_eqI, o_neI, o_eqB, o_neB, o_addL, b_bool, x_list, x_tup, at0, at1, at2, at3, at4, at5, at6, at7, at_last, atN, len_l, len_t, len_s, max_r, min_r, list_r, f_len, f_list, f_max, f_min, f_sorted, f_sum, f_any, out_ret, out_retB, out_retL, out_retT, th_d, th_o, th_n, hd_d, hd_o, hd_n, thawS_nil, thawS_cons, hideS_nil, hideS_cons, frzL_nil, frzL_cons, frzAt_eq, fz_own, fz_d, fz_n, fl_int, fl_bool, fl_str, fl_tup, fls_nil, fls_cons, fls_app, fls_ints, tg1, tg2, tx1, tx2, sv_nil, sv_cons, dn_nil, dn_cons, wd_nil, wd_cons, so_list, so_tup, ro_int, ng_int, ap_own, au_int, au_add, au_sub, tv_bool, tv_list, tv_int, Option.bind_some, Option.bind_none, Option.map_some, Option.map_none, Option.getD_some, Option.getD_none, Option.join_some, List.getElem?_cons_zero, List.getElem?_cons_succ, List.set_cons_zero, List.set_cons_succ, List.length_cons, List.length_nil, List.length_map, ite_true, ite_false, if_true, if_false, Bool.and_true, Bool.true_and, Bool.false_eq_true, decide_eq_true_eq, Bool.not_true, Bool.not_false, and_self, and_true, true_and, reduceIte, D_law_6, G_law_sorted, e1, fr_sorted, hfs]
  simp only [s_seq, s_nil, then_nx, then_ret, then_brk, then_ct, r_asg, r_asgT, r_aug, r_app, r_ext, r_ins, r_clr, r_item, r_if, r_for, r_forN, fo_list, q_rev, rv_list, r_ret, r_retV, r_retN, r_brk, r_ct, r_drop, q_var, q_c, q_bin, q_neg, q_not, q_and, q_or, q_if, q_nil, q_cons, q_tup, q_lst, q_ix, q_step, step_list, q_ssc, q_opt0, q_opt1, q_sl, q_call, q_isi, q_tB, q_tVal, q_tNot, q_tAnd, q_tOr, q_tYes, q_chain, q_seq, q_range1, v_dict, frzS_nil, frzS_cons, fz1_d, fz1_o, fz1_n, q_join, q_split, q_dec, dec_str, tup_rl, f_str, f_tuple, f_int, out_retS, stv_list, r_newK, it_k, th_k, hd_k, fz_k, fz1_k, list_k, q_inT, q_getT, it_int, it_str, gt_str, any_int, r_star, stv_tup, q_zip, sq_list, sq_tup, q_range2, r2_int, sl_tup, q_inT, q_getT, it_int, it_str, gt_str, any_int, r_star, stv_tup, q_zip, sq_list, sq_tup, q_range2, r2_int, sl_tup, v_list, v_listF, v_int, v_bool, v_str, v_none, v_tup, aft_t, aft_f, mk_no, mk_yes, mk_call, ret_list, ret_no, ret_int, ret_bool, ret_str, ret_none, ret_tup, retSv_own, retSv_d, o_add, o_sub, o_mul, o_fdiv, o_mod, o_pow, o_lt, o_le, o_gt, o_ge, o_eqI, o_neI, o_eqB, o_neB, o_addL, b_bool, x_list, x_tup, at0, at1, at2, at3, at4, at5, at6, at7, at_last, atN, len_l, len_t, len_s, max_r, min_r, list_r, f_len, f_list, f_max, f_min, f_sorted, f_sum, f_any, out_ret, out_retB, out_retL, out_retT, th_d, th_o, th_n, hd_d, hd_o, hd_n, thawS_nil, thawS_cons, hideS_nil, hideS_cons, frzL_nil, frzL_cons, frzAt_eq, fz_own, fz_d, fz_n, fl_int, fl_bool, fl_str, fl_tup, fls_nil, fls_cons, fls_app, fls_ints, tg1, tg2, tx1, tx2, sv_nil, sv_cons, dn_nil, dn_cons, wd_nil, wd_cons, so_list, so_tup, ro_int, ng_int, ap_own, au_int, au_add, au_sub, tv_bool, tv_list, tv_int, Option.bind_some, Option.bind_none, Option.map_some, Option.map_none, Option.getD_some, Option.getD_none, Option.join_some, List.getElem?_cons_zero, List.getElem?_cons_succ, List.set_cons_zero, List.set_cons_succ, List.length_cons, List.length_nil, List.length_map, ite_true, ite_false, if_true, if_false, Bool.and_true, Bool.true_and, Bool.false_eq_true, decide_eq_true_eq, Bool.not_true, Bool.not_false, and_self, and_true, true_and, reduceIte, D_law_7, G_law_in_order, e2, fr_in_order, hfs]
  simp only [s_seq, s_nil, then_nx, then_ret, then_brk, then_ct, r_asg, r_asgT, r_aug, r_app, r_ext, r_ins, r_clr, r_item, r_if, r_for, r_forN, fo_list, q_rev, rv_list, r_ret, r_retV, r_retN, r_brk, r_ct, r_drop, q_var, q_c, q_bin, q_neg, q_not, q_and, q_or, q_if, q_nil, q_cons, q_tup, q_lst, q_ix, q_step, step_list, q_ssc, q_opt0, q_opt1, q_sl, q_call, q_isi, q_tB, q_tVal, q_tNot, q_tAnd, q_tOr, q_tYes, q_chain, q_seq, q_range1, v_dict, frzS_nil, frzS_cons, fz1_d, fz1_o, fz1_n, q_join, q_split, q_dec, dec_str, tup_rl, f_str, f_tuple, f_int, out_retS, stv_list, r_newK, it_k, th_k, hd_k, fz_k, fz1_k, list_k, q_inT, q_getT, it_int, it_str, gt_str, any_int, r_star, stv_tup, q_zip, sq_list, sq_tup, q_range2, r2_int, sl_tup, q_inT, q_getT, it_int, it_str, gt_str, any_int, r_star, stv_tup, q_zip, sq_list, sq_tup, q_range2, r2_int, sl_tup, v_list, v_listF, v_int, v_bool, v_str, v_none, v_tup, aft_t, aft_f, mk_no, mk_yes, mk_call, ret_list, ret_no, ret_int, ret_bool, ret_str, ret_none, ret_tup, retSv_own, retSv_d, o_add, o_sub, o_mul, o_fdiv, o_mod, o_pow, o_lt, o_le, o_gt, o_ge, o_eqI, o_neI, o_eqB, o_neB, o_addL, b_bool, x_list, x_tup, at0, at1, at2, at3, at4, at5, at6, at7, at_last, atN, len_l, len_t, len_s, max_r, min_r, list_r, f_len, f_list, f_max, f_min, f_sorted, f_sum, f_any, out_ret, out_retB, out_retL, out_retT, th_d, th_o, th_n, hd_d, hd_o, hd_n, thawS_nil, thawS_cons, hideS_nil, hideS_cons, frzL_nil, frzL_cons, frzAt_eq, fz_own, fz_d, fz_n, fl_int, fl_bool, fl_str, fl_tup, fls_nil, fls_cons, fls_app, fls_ints, tg1, tg2, tx1, tx2, sv_nil, sv_cons, dn_nil, dn_cons, wd_nil, wd_cons, so_list, so_tup, ro_int, ng_int, ap_own, au_int, au_add, au_sub, tv_bool, tv_list, tv_int, Option.bind_some, Option.bind_none, Option.map_some, Option.map_none, Option.getD_some, Option.getD_none, Option.join_some, List.getElem?_cons_zero, List.getElem?_cons_succ, List.set_cons_zero, List.set_cons_succ, List.length_cons, List.length_nil, List.length_map, ite_true, ite_false, if_true, if_false, Bool.and_true, Bool.true_and, Bool.false_eq_true, decide_eq_true_eq, Bool.not_true, Bool.not_false, and_self, and_true, true_and, reduceIte, D_law_8, G_law_like, e3, e4]
  simp only [s_seq, s_nil, then_nx, then_ret, then_brk, then_ct, r_asg, r_asgT, r_aug, r_app, r_ext, r_ins, r_clr, r_item, r_if, r_for, r_forN, fo_list, q_rev, rv_list, r_ret, r_retV, r_retN, r_brk, r_ct, r_drop, q_var, q_c, q_bin, q_neg, q_not, q_and, q_or, q_if, q_nil, q_cons, q_tup, q_lst, q_ix, q_step, step_list, q_ssc, q_opt0, q_opt1, q_sl, q_call, q_isi, q_tB, q_tVal, q_tNot, q_tAnd, q_tOr, q_tYes, q_chain, q_seq, q_range1, v_dict, frzS_nil, frzS_cons, fz1_d, fz1_o, fz1_n, q_join, q_split, q_dec, dec_str, tup_rl, f_str, f_tuple, f_int, out_retS, stv_list, r_newK, it_k, th_k, hd_k, fz_k, fz1_k, list_k, q_inT, q_getT, it_int, it_str, gt_str, any_int, r_star, stv_tup, q_zip, sq_list, sq_tup, q_range2, r2_int, sl_tup, q_inT, q_getT, it_int, it_str, gt_str, any_int, r_star, stv_tup, q_zip, sq_list, sq_tup, q_range2, r2_int, sl_tup, v_list, v_listF, v_int, v_bool, v_str, v_none, v_tup, aft_t, aft_f, mk_no, mk_yes, mk_call, ret_list, ret_no, ret_int, ret_bool, ret_str, ret_none, ret_tup, retSv_own, retSv_d, o_add, o_sub, o_mul, o_fdiv, o_mod, o_pow, o_lt, o_le, o_gt, o_ge, o_eqI, o_neI, o_eqB, o_neB, o_addL, b_bool, x_list, x_tup, at0, at1, at2, at3, at4, at5, at6, at7, at_last, atN, len_l, len_t, len_s, max_r, min_r, list_r, f_len, f_list, f_max, f_min, f_sorted, f_sum, f_any, out_ret, out_retB, out_retL, out_retT, th_d, th_o, th_n, hd_d, hd_o, hd_n, thawS_nil, thawS_cons, hideS_nil, hideS_cons, frzL_nil, frzL_cons, frzAt_eq, fz_own, fz_d, fz_n, fl_int, fl_bool, fl_str, fl_tup, fls_nil, fls_cons, fls_app, fls_ints, tg1, tg2, tx1, tx2, sv_nil, sv_cons, dn_nil, dn_cons, wd_nil, wd_cons, so_list, so_tup, ro_int, ng_int, ap_own, au_int, au_add, au_sub, tv_bool, tv_list, tv_int, Option.bind_some, Option.bind_none, Option.map_some, Option.map_none, Option.getD_some, Option.getD_none, Option.join_some, List.getElem?_cons_zero, List.getElem?_cons_succ, List.set_cons_zero, List.set_cons_succ, List.length_cons, List.length_nil, List.length_map, ite_true, ite_false, if_true, if_false, Bool.and_true, Bool.true_and, Bool.false_eq_true, decide_eq_true_eq, Bool.not_true, Bool.not_false, and_self, and_true, true_and, reduceIte, D_law_9, clr_o9]
  obtain ⟨st, hst, ev1⟩ := strange_val fl hl4 (thaw x0) (some (.list [.int d0, .int d1, .int d2, .int d3, .int d4, .int d5, .int d6, .int d7, .int d8, .int d9])) (thaw x2) (some (.list (fs.map tD))) (some (.list (fs.map tD))) (some (.list ((srt fs).map tD))) (some (.list [])) none none none none none none none none none none
  rw [D_law_10, s_seq, r_asg]
  simp only [thawS_cons, thawS_nil, th_o, th_n]
  rw [ev1]
  simp only [s_seq, s_nil, then_nx, then_ret, then_brk, then_ct, r_asg, r_asgT, r_aug, r_app, r_ext, r_ins, r_clr, r_item, r_if, r_for, r_forN, fo_list, q_rev, rv_list, r_ret, r_retV, r_retN, r_brk, r_ct, r_drop, q_var, q_c, q_bin, q_neg, q_not, q_and, q_or, q_if, q_nil, q_cons, q_tup, q_lst, q_ix, q_step, step_list, q_ssc, q_opt0, q_opt1, q_sl, q_call, q_isi, q_tB, q_tVal, q_tNot, q_tAnd, q_tOr, q_tYes, q_chain, q_seq, q_range1, v_dict, frzS_nil, frzS_cons, fz1_d, fz1_o, fz1_n, q_join, q_split, q_dec, dec_str, tup_rl, f_str, f_tuple, f_int, out_retS, stv_list, r_newK, it_k, th_k, hd_k, fz_k, fz1_k, list_k, q_inT, q_getT, it_int, it_str, gt_str, any_int, r_star, stv_tup, q_zip, sq_list, sq_tup, q_range2, r2_int, sl_tup, q_inT, q_getT, it_int, it_str, gt_str, any_int, r_star, stv_tup, q_zip, sq_list, sq_tup, q_range2, r2_int, sl_tup, v_list, v_listF, v_int, v_bool, v_str, v_none, v_tup, aft_t, aft_f, mk_no, mk_yes, mk_call, ret_list, ret_no, ret_int, ret_bool, ret_str, ret_none, ret_tup, retSv_own, retSv_d, o_add, o_sub, o_mul, o_fdiv, o_mod, o_pow, o_lt, o_le, o_gt, o_ge, o_eqI, o_neI, o_eqB, o_neB, o_addL, b_bool, x_list, x_tup, at0, at1, at2, at3, at4, at5, at6, at7, at_last, atN, len_l, len_t, len_s, max_r, min_r, list_r, f_len, f_list, f_max, f_min, f_sorted, f_sum, f_any, out_ret, out_retB, out_retL, out_retT, th_d, th_o, th_n, hd_d, hd_o, hd_n, thawS_nil, thawS_cons, hideS_nil, hideS_cons, frzL_nil, frzL_cons, frzAt_eq, fz_own, fz_d, fz_n, fl_int, fl_bool, fl_str, fl_tup, fls_nil, fls_cons, fls_app, fls_ints, tg1, tg2, tx1, tx2, sv_nil, sv_cons, dn_nil, dn_cons, wd_nil, wd_cons, so_list, so_tup, ro_int, ng_int, ap_own, au_int, au_add, au_sub, tv_bool, tv_list, tv_int, Option.bind_some, Option.bind_none, Option.map_some, Option.map_none, Option.getD_some, Option.getD_none, Option.join_some, List.getElem?_cons_zero, List.getElem?_cons_succ, List.set_cons_zero, List.set_cons_succ, List.length_cons, List.length_nil, List.length_map, ite_true, ite_false, if_true, if_false, Bool.and_true, Bool.true_and, Bool.false_eq_true, decide_eq_true_eq, Bool.not_true, Bool.not_false, and_self, and_true, true_and, reduceIte]
  have hnd2 : (fl ++ [st]).Nodup := by
    refine List.pairwise_append.mpr ⟨hnd, List.pairwise_singleton _ _, fun x hx y hy => ?_⟩
    rw [List.mem_singleton.mp hy]
    exact fun e => hst (e ▸ hx)
  obtain ⟨one, _, eo⟩ := get_int (ns := fl ++ [st]) (i := d6 % (1 + (fl.length : Int))) (Int.emod_nonneg _ (by omega)) (by
    have := Int.emod_lt_of_pos d6 (show 0 < 1 + (fl.length : Int) by omega)
    rw [List.length_append, List.length_singleton]
    omega)
  rw [List.map_append, List.map_cons, List.map_nil] at eo
  have l1 : (1 : Nat) ≤ lim := by rw [lim_eq]; omega
  have lf : fl.length + 1 ≤ lim := by rw [lim_eq]; omega
  have pf : (0 : Int) < 1 + (fl.length : Int) := by omega
  simp only [s_seq, s_nil, then_nx, then_ret, then_brk, then_ct, r_asg, r_asgT, r_aug, r_app, r_ext, r_ins, r_clr, r_item, r_if, r_for, r_forN, fo_list, q_rev, rv_list, r_ret, r_retV, r_retN, r_brk, r_ct, r_drop, q_var, q_c, q_bin, q_neg, q_not, q_and, q_or, q_if, q_nil, q_cons, q_tup, q_lst, q_ix, q_step, step_list, q_ssc, q_opt0, q_opt1, q_sl, q_call, q_isi, q_tB, q_tVal, q_tNot, q_tAnd, q_tOr, q_tYes, q_chain, q_seq, q_range1, v_dict, frzS_nil, frzS_cons, fz1_d, fz1_o, fz1_n, q_join, q_split, q_dec, dec_str, tup_rl, f_str, f_tuple, f_int, out_retS, stv_list, r_newK, it_k, th_k, hd_k, fz_k, fz1_k, list_k, q_inT, q_getT, it_int, it_str, gt_str, any_int, r_star, stv_tup, q_zip, sq_list, sq_tup, q_range2, r2_int, sl_tup, q_inT, q_getT, it_int, it_str, gt_str, any_int, r_star, stv_tup, q_zip, sq_list, sq_tup, q_range2, r2_int, sl_tup, v_list, v_listF, v_int, v_bool, v_str, v_none, v_tup, aft_t, aft_f, mk_no, mk_yes, mk_call, ret_list, ret_no, ret_int, ret_bool, ret_str, ret_none, ret_tup, retSv_own, retSv_d, o_add, o_sub, o_mul, o_fdiv, o_mod, o_pow, o_lt, o_le, o_gt, o_ge, o_eqI, o_neI, o_eqB, o_neB, o_addL, b_bool, x_list, x_tup, at0, at1, at2, at3, at4, at5, at6, at7, at_last, atN, len_l, len_t, len_s, max_r, min_r, list_r, f_len, f_list, f_max, f_min, f_sorted, f_sum, f_any, out_ret, out_retB, out_retL, out_retT, th_d, th_o, th_n, hd_d, hd_o, hd_n, thawS_nil, thawS_cons, hideS_nil, hideS_cons, frzL_nil, frzL_cons, frzAt_eq, fz_own, fz_d, fz_n, fl_int, fl_bool, fl_str, fl_tup, fls_nil, fls_cons, fls_app, fls_ints, tg1, tg2, tx1, tx2, sv_nil, sv_cons, dn_nil, dn_cons, wd_nil, wd_cons, so_list, so_tup, ro_int, ng_int, ap_own, au_int, au_add, au_sub, tv_bool, tv_list, tv_int, Option.bind_some, Option.bind_none, Option.map_some, Option.map_none, Option.getD_some, Option.getD_none, Option.join_some, List.getElem?_cons_zero, List.getElem?_cons_succ, List.set_cons_zero, List.set_cons_succ, List.length_cons, List.length_nil, List.length_map, ite_true, ite_false, if_true, if_false, Bool.and_true, Bool.true_and, Bool.false_eq_true, decide_eq_true_eq, Bool.not_true, Bool.not_false, and_self, and_true, true_and, reduceIte, D_law_11, G_law_len, l1, lf, pf, eo]
  obtain ⟨other, ev2⟩ := other_val fl st one d7 [.int d0, .int d1, .int d2, .int d3, .int d4, .int d5, .int d6, .int d7, .int d8, .int d9] (by omega) hl4 hnd2 at7 (thaw x0) (thaw x2) (some (.list (fs.map tD))) (some (.list (fs.map tD))) (some (.list ((srt fs).map tD))) (some (.list [])) none none none none none none none none
  rw [D_law_12, s_seq, r_asg]
  simp only [thawS_cons, thawS_nil, th_o, th_n, th_d]
  rw [ev2]
  simp only [s_seq, s_nil, then_nx, then_ret, then_brk, then_ct, r_asg, r_asgT, r_aug, r_app, r_ext, r_ins, r_clr, r_item, r_if, r_for, r_forN, fo_list, q_rev, rv_list, r_ret, r_retV, r_retN, r_brk, r_ct, r_drop, q_var, q_c, q_bin, q_neg, q_not, q_and, q_or, q_if, q_nil, q_cons, q_tup, q_lst, q_ix, q_step, step_list, q_ssc, q_opt0, q_opt1, q_sl, q_call, q_isi, q_tB, q_tVal, q_tNot, q_tAnd, q_tOr, q_tYes, q_chain, q_seq, q_range1, v_dict, frzS_nil, frzS_cons, fz1_d, fz1_o, fz1_n, q_join, q_split, q_dec, dec_str, tup_rl, f_str, f_tuple, f_int, out_retS, stv_list, r_newK, it_k, th_k, hd_k, fz_k, fz1_k, list_k, q_inT, q_getT, it_int, it_str, gt_str, any_int, r_star, stv_tup, q_zip, sq_list, sq_tup, q_range2, r2_int, sl_tup, q_inT, q_getT, it_int, it_str, gt_str, any_int, r_star, stv_tup, q_zip, sq_list, sq_tup, q_range2, r2_int, sl_tup, v_list, v_listF, v_int, v_bool, v_str, v_none, v_tup, aft_t, aft_f, mk_no, mk_yes, mk_call, ret_list, ret_no, ret_int, ret_bool, ret_str, ret_none, ret_tup, retSv_own, retSv_d, o_add, o_sub, o_mul, o_fdiv, o_mod, o_pow, o_lt, o_le, o_gt, o_ge, o_eqI, o_neI, o_eqB, o_neB, o_addL, b_bool, x_list, x_tup, at0, at1, at2, at3, at4, at5, at6, at7, at_last, atN, len_l, len_t, len_s, max_r, min_r, list_r, f_len, f_list, f_max, f_min, f_sorted, f_sum, f_any, out_ret, out_retB, out_retL, out_retT, th_d, th_o, th_n, hd_d, hd_o, hd_n, thawS_nil, thawS_cons, hideS_nil, hideS_cons, frzL_nil, frzL_cons, frzAt_eq, fz_own, fz_d, fz_n, fl_int, fl_bool, fl_str, fl_tup, fls_nil, fls_cons, fls_app, fls_ints, tg1, tg2, tx1, tx2, sv_nil, sv_cons, dn_nil, dn_cons, wd_nil, wd_cons, so_list, so_tup, ro_int, ng_int, ap_own, au_int, au_add, au_sub, tv_bool, tv_list, tv_int, Option.bind_some, Option.bind_none, Option.map_some, Option.map_none, Option.getD_some, Option.getD_none, Option.join_some, List.getElem?_cons_zero, List.getElem?_cons_succ, List.set_cons_zero, List.set_cons_succ, List.length_cons, List.length_nil, List.length_map, ite_true, ite_false, if_true, if_false, Bool.and_true, Bool.true_and, Bool.false_eq_true, decide_eq_true_eq, Bool.not_true, Bool.not_false, and_self, and_true, true_and, reduceIte]
  have ev3 := mine_val one (srt fs) (by rw [srt_len]; omega) (srt_ok hf) (thaw x0) (some (.list [.int d0, .int d1, .int d2, .int d3, .int d4, .int d5, .int d6, .int d7, .int d8, .int d9])) (thaw x2) (some (.list (fl.map PyData.int))) (some (.list (fs.map tD))) (some (.list (fs.map tD))) (some (.list [])) (some (.int st)) (some (.int other)) none none none none none none none
  rw [D_law_13, s_seq, r_asg]
  simp only [thawS_cons, thawS_nil, th_o, th_n, th_d]
  rw [ev3]
  have hfm : flats (((srt fs).filter (isMine one)).map tD) = true := fls_map tD_flat _
  simp only [s_seq, s_nil, then_nx, then_ret, then_brk, then_ct, r_asg, r_asgT, r_aug, r_app, r_ext, r_ins, r_clr, r_item, r_if, r_for, r_forN, fo_list, q_rev, rv_list, r_ret, r_retV, r_retN, r_brk, r_ct, r_drop, q_var, q_c, q_bin, q_neg, q_not, q_and, q_or, q_if, q_nil, q_cons, q_tup, q_lst, q_ix, q_step, step_list, q_ssc, q_opt0, q_opt1, q_sl, q_call, q_isi, q_tB, q_tVal, q_tNot, q_tAnd, q_tOr, q_tYes, q_chain, q_seq, q_range1, v_dict, frzS_nil, frzS_cons, fz1_d, fz1_o, fz1_n, q_join, q_split, q_dec, dec_str, tup_rl, f_str, f_tuple, f_int, out_retS, stv_list, r_newK, it_k, th_k, hd_k, fz_k, fz1_k, list_k, q_inT, q_getT, it_int, it_str, gt_str, any_int, r_star, stv_tup, q_zip, sq_list, sq_tup, q_range2, r2_int, sl_tup, q_inT, q_getT, it_int, it_str, gt_str, any_int, r_star, stv_tup, q_zip, sq_list, sq_tup, q_range2, r2_int, sl_tup, v_list, v_listF, v_int, v_bool, v_str, v_none, v_tup, aft_t, aft_f, mk_no, mk_yes, mk_call, ret_list, ret_no, ret_int, ret_bool, ret_str, ret_none, ret_tup, retSv_own, retSv_d, o_add, o_sub, o_mul, o_fdiv, o_mod, o_pow, o_lt, o_le, o_gt, o_ge, o_eqI, o_neI, o_eqB, o_neB, o_addL, b_bool, x_list, x_tup, at0, at1, at2, at3, at4, at5, at6, at7, at_last, atN, len_l, len_t, len_s, max_r, min_r, list_r, f_len, f_list, f_max, f_min, f_sorted, f_sum, f_any, out_ret, out_retB, out_retL, out_retT, th_d, th_o, th_n, hd_d, hd_o, hd_n, thawS_nil, thawS_cons, hideS_nil, hideS_cons, frzL_nil, frzL_cons, frzAt_eq, fz_own, fz_d, fz_n, fl_int, fl_bool, fl_str, fl_tup, fls_nil, fls_cons, fls_app, fls_ints, tg1, tg2, tx1, tx2, sv_nil, sv_cons, dn_nil, dn_cons, wd_nil, wd_cons, so_list, so_tup, ro_int, ng_int, ap_own, au_int, au_add, au_sub, tv_bool, tv_list, tv_int, Option.bind_some, Option.bind_none, Option.map_some, Option.map_none, Option.getD_some, Option.getD_none, Option.join_some, List.getElem?_cons_zero, List.getElem?_cons_succ, List.set_cons_zero, List.set_cons_succ, List.length_cons, List.length_nil, List.length_map, ite_true, ite_false, if_true, if_false, Bool.and_true, Bool.true_and, Bool.false_eq_true, decide_eq_true_eq, Bool.not_true, Bool.not_false, and_self, and_true, true_and, reduceIte, hfm]
  simp only [s_seq, s_nil, then_nx, then_ret, then_brk, then_ct, r_asg, r_asgT, r_aug, r_app, r_ext, r_ins, r_clr, r_item, r_if, r_for, r_forN, fo_list, q_rev, rv_list, r_ret, r_retV, r_retN, r_brk, r_ct, r_drop, q_var, q_c, q_bin, q_neg, q_not, q_and, q_or, q_if, q_nil, q_cons, q_tup, q_lst, q_ix, q_step, step_list, q_ssc, q_opt0, q_opt1, q_sl, q_call, q_isi, q_tB, q_tVal, q_tNot, q_tAnd, q_tOr, q_tYes, q_chain, q_seq, q_range1, v_dict, frzS_nil, frzS_cons, fz1_d, fz1_o, fz1_n, q_join, q_split, q_dec, dec_str, tup_rl, f_str, f_tuple, f_int, out_retS, stv_list, r_newK, it_k, th_k, hd_k, fz_k, fz1_k, list_k, q_inT, q_getT, it_int, it_str, gt_str, any_int, r_star, stv_tup, q_zip, sq_list, sq_tup, q_range2, r2_int, sl_tup, q_inT, q_getT, it_int, it_str, gt_str, any_int, r_star, stv_tup, q_zip, sq_list, sq_tup, q_range2, r2_int, sl_tup, v_list, v_listF, v_int, v_bool, v_str, v_none, v_tup, aft_t, aft_f, mk_no, mk_yes, mk_call, ret_list, ret_no, ret_int, ret_bool, ret_str, ret_none, ret_tup, retSv_own, retSv_d, o_add, o_sub, o_mul, o_fdiv, o_mod, o_pow, o_lt, o_le, o_gt, o_ge, o_eqI, o_neI, o_eqB, o_neB, o_addL, b_bool, x_list, x_tup, at0, at1, at2, at3, at4, at5, at6, at7, at_last, atN, len_l, len_t, len_s, max_r, min_r, list_r, f_len, f_list, f_max, f_min, f_sorted, f_sum, f_any, out_ret, out_retB, out_retL, out_retT, th_d, th_o, th_n, hd_d, hd_o, hd_n, thawS_nil, thawS_cons, hideS_nil, hideS_cons, frzL_nil, frzL_cons, frzAt_eq, fz_own, fz_d, fz_n, fl_int, fl_bool, fl_str, fl_tup, fls_nil, fls_cons, fls_app, fls_ints, tg1, tg2, tx1, tx2, sv_nil, sv_cons, dn_nil, dn_cons, wd_nil, wd_cons, so_list, so_tup, ro_int, ng_int, ap_own, au_int, au_add, au_sub, tv_bool, tv_list, tv_int, Option.bind_some, Option.bind_none, Option.map_some, Option.map_none, Option.getD_some, Option.getD_none, Option.join_some, List.getElem?_cons_zero, List.getElem?_cons_succ, List.set_cons_zero, List.set_cons_succ, List.length_cons, List.length_nil, List.length_map, ite_true, ite_false, if_true, if_false, Bool.and_true, Bool.true_and, Bool.false_eq_true, decide_eq_true_eq, Bool.not_true, Bool.not_false, and_self, and_true, true_and, reduceIte, D_law_14, Nat.zero_le]
  generalize hrow : some (Sv.own [PyData.int d0, .int d1, .int d2, .int d3, .int d4, .int d5, .int d6, .int d7, .int d8, .int d9]) = x1
  obtain ⟨y13, el⟩ := day_loop one other x0 x1 x2 (some (.own (fl.map PyData.int))) (some (.own (fs.map tD))) (some (.own (fs.map tD))) (some (.d (.list ((srt fs).map tD)))) (some (.own [])) (some (.d (.int st))) (some (.own (((srt fs).filter (isMine one)).map tD))) none none none none (srt fs) [] none (srt_ok hf) (by rw [List.length_nil, srt_len]; omega)
  rw [days_eq, List.map_nil] at el
  obtain ⟨y7, y15, t1⟩ := turn_k one other fs hl hf x0 x1 x2 (some (.own (fl.map PyData.int))) (some (.own (fs.map tD))) (some (.d (.list ((srt fs).map tD)))) (some (.own [])) (some (.d (.int st))) y13 (some (.d (.int 0))) none none none
  obtain ⟨z7, z15, t2⟩ := turn_k one other fs hl hf x0 x1 x2 (some (.own (fl.map PyData.int))) (some (.own (fs.map tD))) (some (.d (.list ((srt fs).map tD)))) y7 (some (.d (.int st))) y13 (some (.d (.int 1))) y15 none none
  generalize nubS ((fs.filter (isWalk one other)).map (·.day)) = zs at el t1 t2
  simp only [s_seq, s_nil, then_nx, then_ret, then_brk, then_ct, r_asg, r_asgT, r_aug, r_app, r_ext, r_ins, r_clr, r_item, r_if, r_for, r_forN, fo_list, q_rev, rv_list, r_ret, r_retV, r_retN, r_brk, r_ct, r_drop, q_var, q_c, q_bin, q_neg, q_not, q_and, q_or, q_if, q_nil, q_cons, q_tup, q_lst, q_ix, q_step, step_list, q_ssc, q_opt0, q_opt1, q_sl, q_call, q_isi, q_tB, q_tVal, q_tNot, q_tAnd, q_tOr, q_tYes, q_chain, q_seq, q_range1, v_dict, frzS_nil, frzS_cons, fz1_d, fz1_o, fz1_n, q_join, q_split, q_dec, dec_str, tup_rl, f_str, f_tuple, f_int, out_retS, stv_list, r_newK, it_k, th_k, hd_k, fz_k, fz1_k, list_k, q_inT, q_getT, it_int, it_str, gt_str, any_int, r_star, stv_tup, q_zip, sq_list, sq_tup, q_range2, r2_int, sl_tup, q_inT, q_getT, it_int, it_str, gt_str, any_int, r_star, stv_tup, q_zip, sq_list, sq_tup, q_range2, r2_int, sl_tup, v_list, v_listF, v_int, v_bool, v_str, v_none, v_tup, aft_t, aft_f, mk_no, mk_yes, mk_call, ret_list, ret_no, ret_int, ret_bool, ret_str, ret_none, ret_tup, retSv_own, retSv_d, o_add, o_sub, o_mul, o_fdiv, o_mod, o_pow, o_lt, o_le, o_gt, o_ge, o_eqI, o_neI, o_eqB, o_neB, o_addL, b_bool, x_list, x_tup, at0, at1, at2, at3, at4, at5, at6, at7, at_last, atN, len_l, len_t, len_s, max_r, min_r, list_r, f_len, f_list, f_max, f_min, f_sorted, f_sum, f_any, out_ret, out_retB, out_retL, out_retT, th_d, th_o, th_n, hd_d, hd_o, hd_n, thawS_nil, thawS_cons, hideS_nil, hideS_cons, frzL_nil, frzL_cons, frzAt_eq, fz_own, fz_d, fz_n, fl_int, fl_bool, fl_str, fl_tup, fls_nil, fls_cons, fls_app, fls_ints, tg1, tg2, tx1, tx2, sv_nil, sv_cons, dn_nil, dn_cons, wd_nil, wd_cons, so_list, so_tup, ro_int, ng_int, ap_own, au_int, au_add, au_sub, tv_bool, tv_list, tv_int, Option.bind_some, Option.bind_none, Option.map_some, Option.map_none, Option.getD_some, Option.getD_none, Option.join_some, List.getElem?_cons_zero, List.getElem?_cons_succ, List.set_cons_zero, List.set_cons_succ, List.length_cons, List.length_nil, List.length_map, ite_true, ite_false, if_true, if_false, Bool.and_true, Bool.true_and, Bool.false_eq_true, decide_eq_true_eq, Bool.not_true, Bool.not_false, and_self, and_true, true_and, reduceIte, D_law_15, el]
  have hr : (2 : Int) ≤ 1000000000 ∧ (-1000000000 : Int) ≤ 2 := by decide
  have hrd : rangeD 0 (Int.toNat 2) = [.int 0, .int 1] := rfl
  have hl2 : forD (b_law_1 F11) (.one 14) [.int 0, .int 1] [x0, x1, x2, some (.own (fl.map PyData.int)), some (.own (fs.map tD)), some (.own (fs.map tD)), some (.d (.list ((srt fs).map tD))), some (.own []), some (.d (.int st)), some (.d (.int one)), some (.d (.int other)), some (.own (((srt fs).filter (isMine one)).map tD)), some (.own (zs.map PyData.int)), y13, none, none, none, none] = some (.nx [x0, x1, x2, some (.own (fl.map PyData.int)), some (.own (fs.map tD)), some (.own (fs.map tD)), some (.d (.list ((srt fs).map tD))), z7, some (.d (.int st)), some (.d (.int one)), some (.d (.int other)), some (.own (((srt fs).filter (isMine one)).map tD)), some (.own (zs.map PyData.int)), y13, some (.d (.int 1)), z15, none, none]) := by
    rw [for_nx (e := [x0, x1, x2, some (.own (fl.map PyData.int)), some (.own (fs.map tD)), some (.own (fs.map tD)), some (.d (.list ((srt fs).map tD))), y7, some (.d (.int st)), some (.d (.int one)), some (.d (.int other)), some (.own (((srt fs).filter (isMine one)).map tD)), some (.own (zs.map PyData.int)), y13, some (.d (.int 0)), y15, none, none]) t1, for_nx (e := [x0, x1, x2, some (.own (fl.map PyData.int)), some (.own (fs.map tD)), some (.own (fs.map tD)), some (.d (.list ((srt fs).map tD))), z7, some (.d (.int st)), some (.d (.int one)), some (.d (.int other)), some (.own (((srt fs).filter (isMine one)).map tD)), some (.own (zs.map PyData.int)), y13, some (.d (.int 1)), z15, none, none]) t2, for_nil]
  simp only [s_seq, s_nil, then_nx, then_ret, then_brk, then_ct, r_asg, r_asgT, r_aug, r_app, r_ext, r_ins, r_clr, r_item, r_if, r_for, r_forN, fo_list, q_rev, rv_list, r_ret, r_retV, r_retN, r_brk, r_ct, r_drop, q_var, q_c, q_bin, q_neg, q_not, q_and, q_or, q_if, q_nil, q_cons, q_tup, q_lst, q_ix, q_step, step_list, q_ssc, q_opt0, q_opt1, q_sl, q_call, q_isi, q_tB, q_tVal, q_tNot, q_tAnd, q_tOr, q_tYes, q_chain, q_seq, q_range1, v_dict, frzS_nil, frzS_cons, fz1_d, fz1_o, fz1_n, q_join, q_split, q_dec, dec_str, tup_rl, f_str, f_tuple, f_int, out_retS, stv_list, r_newK, it_k, th_k, hd_k, fz_k, fz1_k, list_k, q_inT, q_getT, it_int, it_str, gt_str, any_int, r_star, stv_tup, q_zip, sq_list, sq_tup, q_range2, r2_int, sl_tup, q_inT, q_getT, it_int, it_str, gt_str, any_int, r_star, stv_tup, q_zip, sq_list, sq_tup, q_range2, r2_int, sl_tup, v_list, v_listF, v_int, v_bool, v_str, v_none, v_tup, aft_t, aft_f, mk_no, mk_yes, mk_call, ret_list, ret_no, ret_int, ret_bool, ret_str, ret_none, ret_tup, retSv_own, retSv_d, o_add, o_sub, o_mul, o_fdiv, o_mod, o_pow, o_lt, o_le, o_gt, o_ge, o_eqI, o_neI, o_eqB, o_neB, o_addL, b_bool, x_list, x_tup, at0, at1, at2, at3, at4, at5, at6, at7, at_last, atN, len_l, len_t, len_s, max_r, min_r, list_r, f_len, f_list, f_max, f_min, f_sorted, f_sum, f_any, out_ret, out_retB, out_retL, out_retT, th_d, th_o, th_n, hd_d, hd_o, hd_n, thawS_nil, thawS_cons, hideS_nil, hideS_cons, frzL_nil, frzL_cons, frzAt_eq, fz_own, fz_d, fz_n, fl_int, fl_bool, fl_str, fl_tup, fls_nil, fls_cons, fls_app, fls_ints, tg1, tg2, tx1, tx2, sv_nil, sv_cons, dn_nil, dn_cons, wd_nil, wd_cons, so_list, so_tup, ro_int, ng_int, ap_own, au_int, au_add, au_sub, tv_bool, tv_list, tv_int, Option.bind_some, Option.bind_none, Option.map_some, Option.map_none, Option.getD_some, Option.getD_none, Option.join_some, List.getElem?_cons_zero, List.getElem?_cons_succ, List.set_cons_zero, List.set_cons_succ, List.length_cons, List.length_nil, List.length_map, ite_true, ite_false, if_true, if_false, Bool.and_true, Bool.true_and, Bool.false_eq_true, decide_eq_true_eq, Bool.not_true, Bool.not_false, and_self, and_true, true_and, reduceIte, D_law_16, hr, hrd, hl2]
  have e5 := eq_facts fs hf
  simp only [s_seq, s_nil, then_nx, then_ret, then_brk, then_ct, r_asg, r_asgT, r_aug, r_app, r_ext, r_ins, r_clr, r_item, r_if, r_for, r_forN, fo_list, q_rev, rv_list, r_ret, r_retV, r_retN, r_brk, r_ct, r_drop, q_var, q_c, q_bin, q_neg, q_not, q_and, q_or, q_if, q_nil, q_cons, q_tup, q_lst, q_ix, q_step, step_list, q_ssc, q_opt0, q_opt1, q_sl, q_call, q_isi, q_tB, q_tVal, q_tNot, q_tAnd, q_tOr, q_tYes, q_chain, q_seq, q_range1, v_dict, frzS_nil, frzS_cons, fz1_d, fz1_o, fz1_n, q_join, q_split, q_dec, dec_str, tup_rl, f_str, f_tuple, f_int, out_retS, stv_list, r_newK, it_k, th_k, hd_k, fz_k, fz1_k, list_k, q_inT, q_getT, it_int, it_str, gt_str, any_int, r_star, stv_tup, q_zip, sq_list, sq_tup, q_range2, r2_int, sl_tup, q_inT, q_getT, it_int, it_str, gt_str, any_int, r_star, stv_tup, q_zip, sq_list, sq_tup, q_range2, r2_int, sl_tup, v_list, v_listF, v_int, v_bool, v_str, v_none, v_tup, aft_t, aft_f, mk_no, mk_yes, mk_call, ret_list, ret_no, ret_int, ret_bool, ret_str, ret_none, ret_tup, retSv_own, retSv_d, o_add, o_sub, o_mul, o_fdiv, o_mod, o_pow, o_lt, o_le, o_gt, o_ge, o_eqI, o_neI, o_eqB, o_neB, o_addL, b_bool, x_list, x_tup, at0, at1, at2, at3, at4, at5, at6, at7, at_last, atN, len_l, len_t, len_s, max_r, min_r, list_r, f_len, f_list, f_max, f_min, f_sorted, f_sum, f_any, out_ret, out_retB, out_retL, out_retT, th_d, th_o, th_n, hd_d, hd_o, hd_n, thawS_nil, thawS_cons, hideS_nil, hideS_cons, frzL_nil, frzL_cons, frzAt_eq, fz_own, fz_d, fz_n, fl_int, fl_bool, fl_str, fl_tup, fls_nil, fls_cons, fls_app, fls_ints, tg1, tg2, tx1, tx2, sv_nil, sv_cons, dn_nil, dn_cons, wd_nil, wd_cons, so_list, so_tup, ro_int, ng_int, ap_own, au_int, au_add, au_sub, tv_bool, tv_list, tv_int, Option.bind_some, Option.bind_none, Option.map_some, Option.map_none, Option.getD_some, Option.getD_none, Option.join_some, List.getElem?_cons_zero, List.getElem?_cons_succ, List.set_cons_zero, List.set_cons_succ, List.length_cons, List.length_nil, List.length_map, ite_true, ite_false, if_true, if_false, Bool.and_true, Bool.true_and, Bool.false_eq_true, decide_eq_true_eq, Bool.not_true, Bool.not_false, and_self, and_true, true_and, reduceIte, D_law_17, G_law_in_order, G_law_like, e2, e3, e5]
theorem law_true (ns : List Int) (_ : ns.length ≤ 63) : x_law.run [scrD ns] = some (.bool true) := by
  obtain ⟨c, ds, ec, ed, hds⟩ := dig_at ns 0 (by decide) [31, 4, 3, 999, 5, 2, 5, 5, 5, 97] (by decide) (by decide)
  obtain ⟨d0, r0, rfl, a0, c0, hds⟩ := digs_inv hds
  obtain ⟨d1, r1, rfl, a1, c1, hds⟩ := digs_inv hds
  obtain ⟨d2, r2, rfl, a2, c2, hds⟩ := digs_inv hds
  obtain ⟨d3, r3, rfl, a3, c3, hds⟩ := digs_inv hds
  obtain ⟨d4, r4, rfl, a4, c4, hds⟩ := digs_inv hds
  obtain ⟨d5, r5, rfl, a5, c5, hds⟩ := digs_inv hds
  obtain ⟨d6, r6, rfl, a6, c6, hds⟩ := digs_inv hds
  obtain ⟨d7, r7, rfl, a7, c7, hds⟩ := digs_inv hds
  obtain ⟨d8, r8, rfl, a8, c8, hds⟩ := digs_inv hds
  obtain ⟨d9, r9, rfl, a9, c9, hds⟩ := digs_inv hds
  have e6 := digs_end hds
  subst e6
  simp only [List.map_cons, List.map_nil] at ed
  have l10 : (10 : Nat) ≤ lim := by rw [lim_eq]; omega
  obtain ⟨fl, ef, hfl⟩ := r_folk d3 d4 (2 + d1) a4 c4 (by omega) (by omega)
  obtain ⟨gl, eg, hgl, hgn⟩ := r_folk2 (d3 + 50) d4 (2 + d2) a4 c4 (by omega) (by omega)
  obtain ⟨fs, hf, hl, ev⟩ := r_few2 ns 1 d0 0 (9 + 11 * d8) fl gl (by omega) (by omega) (by omega) (by omega) (by omega) (by omega) (by omega) (by omega) (by omega) a0 (by omega)
  have hfs : flats (fs.map tD) = true := fls_map tD_flat fs
  have hm : ((-(2 ^ 64) < (11 : Int) ∧ (11 : Int) < 2 ^ 64)) := by decide
  have at8 : atI [PyData.int d0, .int d1, .int d2, .int d3, .int d4, .int d5, .int d6, .int d7, .int d8, .int d9] 8 = some (.int d8) := atN (n := 8)
  have at9 : atI [PyData.int d0, .int d1, .int d2, .int d3, .int d4, .int d5, .int d6, .int d7, .int d8, .int d9] 9 = some (.int d9) := atN (n := 9)
  rw [R_law]
  simp only [s_seq, s_nil, then_nx, then_ret, then_brk, then_ct, r_asg, r_asgT, r_aug, r_app, r_ext, r_ins, r_clr, r_item, r_if, r_for, r_forN, fo_list, q_rev, rv_list, r_ret, r_retV, r_retN, r_brk, r_ct, r_drop, q_var, q_c, q_bin, q_neg, q_not, q_and, q_or, q_if, q_nil, q_cons, q_tup, q_lst, q_ix, q_step, step_list, q_ssc, q_opt0, q_opt1, q_sl, q_call, q_isi, q_tB, q_tVal, q_tNot, q_tAnd, q_tOr, q_tYes, q_chain, q_seq, q_range1, v_dict, frzS_nil, frzS_cons, fz1_d, fz1_o, fz1_n, q_join, q_split, q_dec, dec_str, tup_rl, f_str, f_tuple, f_int, out_retS, stv_list, r_newK, it_k, th_k, hd_k, fz_k, fz1_k, list_k, q_inT, q_getT, it_int, it_str, gt_str, any_int, r_star, stv_tup, q_zip, sq_list, sq_tup, q_range2, r2_int, sl_tup, q_inT, q_getT, it_int, it_str, gt_str, any_int, r_star, stv_tup, q_zip, sq_list, sq_tup, q_range2, r2_int, sl_tup, v_list, v_listF, v_int, v_bool, v_str, v_none, v_tup, aft_t, aft_f, mk_no, mk_yes, mk_call, ret_list, ret_no, ret_int, ret_bool, ret_str, ret_none, ret_tup, retSv_own, retSv_d, o_add, o_sub, o_mul, o_fdiv, o_mod, o_pow, o_lt, o_le, o_gt, o_ge, o_eqI, o_neI, o_eqB, o_neB, o_addL, b_bool, x_list, x_tup, at0, at1, at2, at3, at4, at5, at6, at7, at_last, atN, len_l, len_t, len_s, max_r, min_r, list_r, f_len, f_list, f_max, f_min, f_sorted, f_sum, f_any, out_ret, out_retB, out_retL, out_retT, th_d, th_o, th_n, hd_d, hd_o, hd_n, thawS_nil, thawS_cons, hideS_nil, hideS_cons, frzL_nil, frzL_cons, frzAt_eq, fz_own, fz_d, fz_n, fl_int, fl_bool, fl_str, fl_tup, fls_nil, fls_cons, fls_app, fls_ints, tg1, tg2, tx1, tx2, sv_nil, sv_cons, dn_nil, dn_cons, wd_nil, wd_cons, so_list, so_tup, ro_int, ng_int, ap_own, au_int, au_add, au_sub, tv_bool, tv_list, tv_int, Option.bind_some, Option.bind_none, Option.map_some, Option.map_none, Option.getD_some, Option.getD_none, Option.join_some, List.getElem?_cons_zero, List.getElem?_cons_succ, List.set_cons_zero, List.set_cons_succ, List.length_cons, List.length_nil, List.length_map, ite_true, ite_false, if_true, if_false, Bool.and_true, Bool.true_and, Bool.false_eq_true, decide_eq_true_eq, Bool.not_true, Bool.not_false, and_self, and_true, true_and, reduceIte, D_law_0, G_law_cell, ec, G_law_digits, ed, fr_digits, l10]
  simp only [s_seq, s_nil, then_nx, then_ret, then_brk, then_ct, r_asg, r_asgT, r_aug, r_app, r_ext, r_ins, r_clr, r_item, r_if, r_for, r_forN, fo_list, q_rev, rv_list, r_ret, r_retV, r_retN, r_brk, r_ct, r_drop, q_var, q_c, q_bin, q_neg, q_not, q_and, q_or, q_if, q_nil, q_cons, q_tup, q_lst, q_ix, q_step, step_list, q_ssc, q_opt0, q_opt1, q_sl, q_call, q_isi, q_tB, q_tVal, q_tNot, q_tAnd, q_tOr, q_tYes, q_chain, q_seq, q_range1, v_dict, frzS_nil, frzS_cons, fz1_d, fz1_o, fz1_n, q_join, q_split, q_dec, dec_str, tup_rl, f_str, f_tuple, f_int, out_retS, stv_list, r_newK, it_k, th_k, hd_k, fz_k, fz1_k, list_k, q_inT, q_getT, it_int, it_str, gt_str, any_int, r_star, stv_tup, q_zip, sq_list, sq_tup, q_range2, r2_int, sl_tup, q_inT, q_getT, it_int, it_str, gt_str, any_int, r_star, stv_tup, q_zip, sq_list, sq_tup, q_range2, r2_int, sl_tup, v_list, v_listF, v_int, v_bool, v_str, v_none, v_tup, aft_t, aft_f, mk_no, mk_yes, mk_call, ret_list, ret_no, ret_int, ret_bool, ret_str, ret_none, ret_tup, retSv_own, retSv_d, o_add, o_sub, o_mul, o_fdiv, o_mod, o_pow, o_lt, o_le, o_gt, o_ge, o_eqI, o_neI, o_eqB, o_neB, o_addL, b_bool, x_list, x_tup, at0, at1, at2, at3, at4, at5, at6, at7, at_last, atN, len_l, len_t, len_s, max_r, min_r, list_r, f_len, f_list, f_max, f_min, f_sorted, f_sum, f_any, out_ret, out_retB, out_retL, out_retT, th_d, th_o, th_n, hd_d, hd_o, hd_n, thawS_nil, thawS_cons, hideS_nil, hideS_cons, frzL_nil, frzL_cons, frzAt_eq, fz_own, fz_d, fz_n, fl_int, fl_bool, fl_str, fl_tup, fls_nil, fls_cons, fls_app, fls_ints, tg1, tg2, tx1, tx2, sv_nil, sv_cons, dn_nil, dn_cons, wd_nil, wd_cons, so_list, so_tup, ro_int, ng_int, ap_own, au_int, au_add, au_sub, tv_bool, tv_list, tv_int, Option.bind_some, Option.bind_none, Option.map_some, Option.map_none, Option.getD_some, Option.getD_none, Option.join_some, List.getElem?_cons_zero, List.getElem?_cons_succ, List.set_cons_zero, List.set_cons_succ, List.length_cons, List.length_nil, List.length_map, ite_true, ite_false, if_true, if_false, Bool.and_true, Bool.true_and, Bool.false_eq_true, decide_eq_true_eq, Bool.not_true, Bool.not_false, and_self, and_true, true_and, reduceIte, D_law_1, G_law_folk, ef, fr_folk]
  simp only [s_seq, s_nil, then_nx, then_ret, then_brk, then_ct, r_asg, r_asgT, r_aug, r_app, r_ext, r_ins, r_clr, r_item, r_if, r_for, r_forN, fo_list, q_rev, rv_list, r_ret, r_retV, r_retN, r_brk, r_ct, r_drop, q_var, q_c, q_bin, q_neg, q_not, q_and, q_or, q_if, q_nil, q_cons, q_tup, q_lst, q_ix, q_step, step_list, q_ssc, q_opt0, q_opt1, q_sl, q_call, q_isi, q_tB, q_tVal, q_tNot, q_tAnd, q_tOr, q_tYes, q_chain, q_seq, q_range1, v_dict, frzS_nil, frzS_cons, fz1_d, fz1_o, fz1_n, q_join, q_split, q_dec, dec_str, tup_rl, f_str, f_tuple, f_int, out_retS, stv_list, r_newK, it_k, th_k, hd_k, fz_k, fz1_k, list_k, q_inT, q_getT, it_int, it_str, gt_str, any_int, r_star, stv_tup, q_zip, sq_list, sq_tup, q_range2, r2_int, sl_tup, q_inT, q_getT, it_int, it_str, gt_str, any_int, r_star, stv_tup, q_zip, sq_list, sq_tup, q_range2, r2_int, sl_tup, v_list, v_listF, v_int, v_bool, v_str, v_none, v_tup, aft_t, aft_f, mk_no, mk_yes, mk_call, ret_list, ret_no, ret_int, ret_bool, ret_str, ret_none, ret_tup, retSv_own, retSv_d, o_add, o_sub, o_mul, o_fdiv, o_mod, o_pow, o_lt, o_le, o_gt, o_ge, o_eqI, o_neI, o_eqB, o_neB, o_addL, b_bool, x_list, x_tup, at0, at1, at2, at3, at4, at5, at6, at7, at_last, atN, len_l, len_t, len_s, max_r, min_r, list_r, f_len, f_list, f_max, f_min, f_sorted, f_sum, f_any, out_ret, out_retB, out_retL, out_retT, th_d, th_o, th_n, hd_d, hd_o, hd_n, thawS_nil, thawS_cons, hideS_nil, hideS_cons, frzL_nil, frzL_cons, frzAt_eq, fz_own, fz_d, fz_n, fl_int, fl_bool, fl_str, fl_tup, fls_nil, fls_cons, fls_app, fls_ints, tg1, tg2, tx1, tx2, sv_nil, sv_cons, dn_nil, dn_cons, wd_nil, wd_cons, so_list, so_tup, ro_int, ng_int, ap_own, au_int, au_add, au_sub, tv_bool, tv_list, tv_int, Option.bind_some, Option.bind_none, Option.map_some, Option.map_none, Option.getD_some, Option.getD_none, Option.join_some, List.getElem?_cons_zero, List.getElem?_cons_succ, List.set_cons_zero, List.set_cons_succ, List.length_cons, List.length_nil, List.length_map, ite_true, ite_false, if_true, if_false, Bool.and_true, Bool.true_and, Bool.false_eq_true, decide_eq_true_eq, Bool.not_true, Bool.not_false, and_self, and_true, true_and, reduceIte, D_law_2, G_law_folk, eg, fr_folk]
  simp only [s_seq, s_nil, then_nx, then_ret, then_brk, then_ct, r_asg, r_asgT, r_aug, r_app, r_ext, r_ins, r_clr, r_item, r_if, r_for, r_forN, fo_list, q_rev, rv_list, r_ret, r_retV, r_retN, r_brk, r_ct, r_drop, q_var, q_c, q_bin, q_neg, q_not, q_and, q_or, q_if, q_nil, q_cons, q_tup, q_lst, q_ix, q_step, step_list, q_ssc, q_opt0, q_opt1, q_sl, q_call, q_isi, q_tB, q_tVal, q_tNot, q_tAnd, q_tOr, q_tYes, q_chain, q_seq, q_range1, v_dict, frzS_nil, frzS_cons, fz1_d, fz1_o, fz1_n, q_join, q_split, q_dec, dec_str, tup_rl, f_str, f_tuple, f_int, out_retS, stv_list, r_newK, it_k, th_k, hd_k, fz_k, fz1_k, list_k, q_inT, q_getT, it_int, it_str, gt_str, any_int, r_star, stv_tup, q_zip, sq_list, sq_tup, q_range2, r2_int, sl_tup, q_inT, q_getT, it_int, it_str, gt_str, any_int, r_star, stv_tup, q_zip, sq_list, sq_tup, q_range2, r2_int, sl_tup, v_list, v_listF, v_int, v_bool, v_str, v_none, v_tup, aft_t, aft_f, mk_no, mk_yes, mk_call, ret_list, ret_no, ret_int, ret_bool, ret_str, ret_none, ret_tup, retSv_own, retSv_d, o_add, o_sub, o_mul, o_fdiv, o_mod, o_pow, o_lt, o_le, o_gt, o_ge, o_eqI, o_neI, o_eqB, o_neB, o_addL, b_bool, x_list, x_tup, at0, at1, at2, at3, at4, at5, at6, at7, at_last, atN, len_l, len_t, len_s, max_r, min_r, list_r, f_len, f_list, f_max, f_min, f_sorted, f_sum, f_any, out_ret, out_retB, out_retL, out_retT, th_d, th_o, th_n, hd_d, hd_o, hd_n, thawS_nil, thawS_cons, hideS_nil, hideS_cons, frzL_nil, frzL_cons, frzAt_eq, fz_own, fz_d, fz_n, fl_int, fl_bool, fl_str, fl_tup, fls_nil, fls_cons, fls_app, fls_ints, tg1, tg2, tx1, tx2, sv_nil, sv_cons, dn_nil, dn_cons, wd_nil, wd_cons, so_list, so_tup, ro_int, ng_int, ap_own, au_int, au_add, au_sub, tv_bool, tv_list, tv_int, Option.bind_some, Option.bind_none, Option.map_some, Option.map_none, Option.getD_some, Option.getD_none, Option.join_some, List.getElem?_cons_zero, List.getElem?_cons_succ, List.set_cons_zero, List.set_cons_succ, List.length_cons, List.length_nil, List.length_map, ite_true, ite_false, if_true, if_false, Bool.and_true, Bool.true_and, Bool.false_eq_true, decide_eq_true_eq, Bool.not_true, Bool.not_false, and_self, and_true, true_and, reduceIte, D_law_3, at8, hm, true_or, G_law_few, ev, fr_few, hfs]
  by_cases h5 : d5 = 1
  · subst h5
    have p7 : (0 : Int) < 7 := by decide
    have hpk : pickL (fs.map tD) (some (d9 % 7)) none 2 = (pickL fs (some (d9 % 7)) none 2).map tD := pickL_map _ _ _ _ _
    have hpl := pickL_len fs (some (d9 % 7)) none 2
    generalize hgs : pickL fs (some (d9 % 7)) none 2 = gs at hpk hpl
    have hgok : ∀ f ∈ gs, FtOk f := fun f h => by
      rw [← hgs] at h
      unfold pickL at h
      obtain ⟨i, _, e⟩ := List.mem_filterMap.mp h
      exact hf f (List.mem_of_getElem? e)
    have hlim : fs.length + gs.length ≤ lim := by rw [lim_eq]; omega
    have hfl2 : flats ((fs ++ gs).map tD) = true := fls_map tD_flat _
    rw [List.map_append] at hfl2
    have hend := law_end d0 d1 d2 d3 d4 1 d6 d7 d8 d9 gl (by omega) (by omega) hgn a6 (fs ++ gs) (by rw [List.length_append]; omega) (fun f h => (List.mem_append.mp h).elim (hf f) (hgok f)) (some (.d (scrD ns))) (some (.own (fl.map PyData.int)))
    rw [List.map_append] at hend
    simp only [s_seq, s_nil, then_nx, then_ret, then_brk, then_ct, r_asg, r_asgT, r_aug, r_app, r_ext, r_ins, r_clr, r_item, r_if, r_for, r_forN, fo_list, q_rev, rv_list, r_ret, r_retV, r_retN, r_brk, r_ct, r_drop, q_var, q_c, q_bin, q_neg, q_not, q_and, q_or, q_if, q_nil, q_cons, q_tup, q_lst, q_ix, q_step, step_list, q_ssc, q_opt0, q_opt1, q_sl, q_call, q_isi, q_tB, q_tVal, q_tNot, q_tAnd, q_tOr, q_tYes, q_chain, q_seq, q_range1, v_dict, frzS_nil, frzS_cons, fz1_d, fz1_o, fz1_n, q_join, q_split, q_dec, dec_str, tup_rl, f_str, f_tuple, f_int, out_retS, stv_list, r_newK, it_k, th_k, hd_k, fz_k, fz1_k, list_k, q_inT, q_getT, it_int, it_str, gt_str, any_int, r_star, stv_tup, q_zip, sq_list, sq_tup, q_range2, r2_int, sl_tup, q_inT, q_getT, it_int, it_str, gt_str, any_int, r_star, stv_tup, q_zip, sq_list, sq_tup, q_range2, r2_int, sl_tup, v_list, v_listF, v_int, v_bool, v_str, v_none, v_tup, aft_t, aft_f, mk_no, mk_yes, mk_call, ret_list, ret_no, ret_int, ret_bool, ret_str, ret_none, ret_tup, retSv_own, retSv_d, o_add, o_sub, o_mul, o_fdiv, o_mod, o_pow, o_lt, o_le, o_gt, o_ge, o_eqI, o_neI, o_eqB, o_neB, o_addL, b_bool, x_list, x_tup, at0, at1, at2, at3, at4, at5, at6, at7, at_last, atN, len_l, len_t, len_s, max_r, min_r, list_r, f_len, f_list, f_max, f_min, f_sorted, f_sum, f_any, out_ret, out_retB, out_retL, out_retT, th_d, th_o, th_n, hd_d, hd_o, hd_n, thawS_nil, thawS_cons, hideS_nil, hideS_cons, frzL_nil, frzL_cons, frzAt_eq, fz_own, fz_d, fz_n, fl_int, fl_bool, fl_str, fl_tup, fls_nil, fls_cons, fls_app, fls_ints, tg1, tg2, tx1, tx2, sv_nil, sv_cons, dn_nil, dn_cons, wd_nil, wd_cons, so_list, so_tup, ro_int, ng_int, ap_own, au_int, au_add, au_sub, tv_bool, tv_list, tv_int, Option.bind_some, Option.bind_none, Option.map_some, Option.map_none, Option.getD_some, Option.getD_none, Option.join_some, List.getElem?_cons_zero, List.getElem?_cons_succ, List.set_cons_zero, List.set_cons_succ, List.length_cons, List.length_nil, List.length_map, ite_true, ite_false, if_true, if_false, Bool.and_true, Bool.true_and, Bool.false_eq_true, decide_eq_true_eq, Bool.not_true, Bool.not_false, and_self, and_true, true_and, reduceIte, D_law_4, eq_self, decide_true, at9, p7, int_of, Option.pure_def, Option.bind_eq_bind, hpk, hlim, hfl2]
    exact hend
  · simp only [s_seq, s_nil, then_nx, then_ret, then_brk, then_ct, r_asg, r_asgT, r_aug, r_app, r_ext, r_ins, r_clr, r_item, r_if, r_for, r_forN, fo_list, q_rev, rv_list, r_ret, r_retV, r_retN, r_brk, r_ct, r_drop, q_var, q_c, q_bin, q_neg, q_not, q_and, q_or, q_if, q_nil, q_cons, q_tup, q_lst, q_ix, q_step, step_list, q_ssc, q_opt0, q_opt1, q_sl, q_call, q_isi, q_tB, q_tVal, q_tNot, q_tAnd, q_tOr, q_tYes, q_chain, q_seq, q_range1, v_dict, frzS_nil, frzS_cons, fz1_d, fz1_o, fz1_n, q_join, q_split, q_dec, dec_str, tup_rl, f_str, f_tuple, f_int, out_retS, stv_list, r_newK, it_k, th_k, hd_k, fz_k, fz1_k, list_k, q_inT, q_getT, it_int, it_str, gt_str, any_int, r_star, stv_tup, q_zip, sq_list, sq_tup, q_range2, r2_int, sl_tup, q_inT, q_getT, it_int, it_str, gt_str, any_int, r_star, stv_tup, q_zip, sq_list, sq_tup, q_range2, r2_int, sl_tup, v_list, v_listF, v_int, v_bool, v_str, v_none, v_tup, aft_t, aft_f, mk_no, mk_yes, mk_call, ret_list, ret_no, ret_int, ret_bool, ret_str, ret_none, ret_tup, retSv_own, retSv_d, o_add, o_sub, o_mul, o_fdiv, o_mod, o_pow, o_lt, o_le, o_gt, o_ge, o_eqI, o_neI, o_eqB, o_neB, o_addL, b_bool, x_list, x_tup, at0, at1, at2, at3, at4, at5, at6, at7, at_last, atN, len_l, len_t, len_s, max_r, min_r, list_r, f_len, f_list, f_max, f_min, f_sorted, f_sum, f_any, out_ret, out_retB, out_retL, out_retT, th_d, th_o, th_n, hd_d, hd_o, hd_n, thawS_nil, thawS_cons, hideS_nil, hideS_cons, frzL_nil, frzL_cons, frzAt_eq, fz_own, fz_d, fz_n, fl_int, fl_bool, fl_str, fl_tup, fls_nil, fls_cons, fls_app, fls_ints, tg1, tg2, tx1, tx2, sv_nil, sv_cons, dn_nil, dn_cons, wd_nil, wd_cons, so_list, so_tup, ro_int, ng_int, ap_own, au_int, au_add, au_sub, tv_bool, tv_list, tv_int, Option.bind_some, Option.bind_none, Option.map_some, Option.map_none, Option.getD_some, Option.getD_none, Option.join_some, List.getElem?_cons_zero, List.getElem?_cons_succ, List.set_cons_zero, List.set_cons_succ, List.length_cons, List.length_nil, List.length_map, ite_true, ite_false, if_true, if_false, Bool.and_true, Bool.true_and, Bool.false_eq_true, decide_eq_true_eq, Bool.not_true, Bool.not_false, and_self, and_true, true_and, reduceIte, D_law_4, h5, decide_false]
    exact law_end d0 d1 d2 d3 d4 d5 d6 d7 d8 d9 gl (by omega) (by omega) hgn a6 fs (by omega) hf _ _
end PU.Lk09
open PySem PySem.W PyProof.Rows
set_option maxHeartbeats 0 in
theorem PySem.Challenge.cw_longhold_k09_facts_in_order_holds : PySem.Challenge.rw_longhold_k09_facts_in_order.Holds := by
  w_on; o_law; k_head; (case hw => w_witness2)
  k_fill
  refine L2.walk_of (l := PySem.Challenge.rw_longhold_k09_facts_in_order) (n := 63) (k := 15) (x := "_law_script") (CX := fun _ => L2.CX0) (sp := fun w => PU.spLaw _) rfl (by decide) rfl ⟨rfl, by decide, by decide⟩ (fun w h Y => PySem.W.kIn_of Y) ?F (fun _ _ a ns hl _ hS => ⟨a, ns, rfl, hS, hl, fun _ => rfl⟩) (fun _ _ _ _ _ h => h)
  case F =>
    intro w mg fa h KX G hmg
    refine' PU.Lk09.all_mk KX G hmg ?a0 ?l0 ?c0 ?k0 ?a1 ?l1 ?c1 ?k1 ?a2 ?l2 ?c2 ?k2 ?a3 ?l3 ?c3 ?k3 ?a4 ?l4 ?c4 ?k4 ?a5 ?l5 ?c5 ?k5 ?a6 ?l6 ?c6 ?k6 ?a7 ?l7 ?c7 ?k7 ?a8 ?l8 ?c8 ?k8 ?a9 ?l9 ?c9 ?k9 ?a10 ?l10 ?c10 ?k10 ?a11 ?l11 ?c11 ?k11 ?z0 ?z1 ?z2 ?z3 ?z4 ?z5 ?z6 ?z7 ?z8 ?z9 ?z10 PU.Lk09.law_true
    (case a0 => k_is)
    (case l0 => k_is)
    (case c0 => k_is)
    (case k0 => k_is)
    (case a1 => k_is)
    (case l1 => k_is)
    (case c1 => k_is)
    (case k1 => k_is)
    (case a2 => k_is)
    (case l2 => k_is)
    (case c2 => k_is)
    (case k2 => k_is)
    (case a3 => k_is)
    (case l3 => k_is)
    (case c3 => k_is)
    (case k3 => k_is)
    (case a4 => k_is)
    (case l4 => k_is)
    (case c4 => k_is)
    (case k4 => k_is)
    (case a5 => k_is)
    (case l5 => k_is)
    (case c5 => k_is)
    (case k5 => k_is)
    (case a6 => k_is)
    (case l6 => k_is)
    (case c6 => k_is)
    (case k6 => k_is)
    (case a7 => k_is)
    (case l7 => k_is)
    (case c7 => k_is)
    (case k7 => k_is)
    (case a8 => k_is)
    (case l8 => k_is)
    (case c8 => k_is)
    (case k8 => k_is)
    (case a9 => k_is)
    (case l9 => k_is)
    (case c9 => k_is)
    (case k9 => k_is)
    (case a10 => k_is)
    (case l10 => k_is)
    (case c10 => k_is)
    (case k10 => k_is)
    (case a11 => k_is)
    (case l11 => k_is)
    (case c11 => k_is)
    (case k11 => k_is)
    (case z0 => k_is)
    (case z1 => k_is)
    (case z2 => k_is)
    (case z3 => k_is)
    (case z4 => k_is)
    (case z5 => k_is)
    (case z6 => k_is)
    (case z7 => k_is)
    (case z8 => k_is)
    (case z9 => k_is)
    (case z10 => k_is)
