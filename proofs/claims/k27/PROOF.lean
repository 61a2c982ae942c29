import PyProof.Rows.All
import Wide.All
import OpenK.AllK
import Wide.FinOn
import HandS.Exc
import HandS.TryOnly
import HandS.TryMany
import HandS.ForMost
import HandS.ExcOwn
import HandS.Wide
import HandS.SortInts
import HandS.Property
import HandS.Star
import HandS.MakeKw
import HandS.IsInst
import HandS.Strs
import HandS.Gcd
import HandS.Style
import HandS.Flow
import PyProof.Rows.RuleB_pow
import HandS.Zip
import KE.KOpsOwn
import KE.KMathGC
import HandS.Conv
import HandS.Dict
import HandS.Iter
import HandS.WordsExc
import HandS.Codes
import HandS.SetFor
import KE.KDictZip
import HandS.More
import HandS.DictComp
import HandS.ExcIs
import HandS.ExcField
import KE.KExcIs
import PySem.Challenge.RW_leaprules_k27_counts_by_walking
set_option Elab.async false
set_option linter.all false


set_option maxRecDepth 100000
set_option maxHeartbeats 4000000
/-! try: a caught exception is told of in the heap, so that it may be held, asked and handed on -/
namespace Dv
open PySem PySem.Spec PyProof.Rows L2
/-- the heap's word for an exception that was caught: its class, its dict, plain data -/
def XoO (cls : Value) (d : Option Addr) (a : Addr) : HO := .ext fun h => ∃ (o : Obj) (vs : Array Value), h.get? a = some o ∧ Zc cls d o ∧ o.data = .fields vs
theorem xoO_ok {P : Program} {w : World} {H : Hp} {h : Heap} {a : Addr} {cls : Value} {d : Option Addr} {o : Obj} {vs : Array Value} (e : h.get? a = some o) (z : Zc cls d o) (q : o.data = .fields vs) : ObjOk P w H h a (XoO cls d a) :=
  ⟨⟨o, vs, e, z, q⟩, ⟨o, e⟩, fun h1 h2 ⟨o1, v1, e1, z1, q1⟩ k => ⟨o1, v1, k o1 e1, z1, q1⟩⟩
section
variable {X : Cx} {pins : List (Addr × Obj)} {σ : L2.St} {H : Hp} {s : Shared}
/-- an object that stands already is told of from now on -/
theorem told_inv {a : Addr} {u : HO} (I : Inv X pins σ H s) (hn : H a = none) (h0 : ∀ b o, X.s_0.heap.get? b = some o → b ∉ X.ex → b ≠ a) (hl : X.env.locals ≠ a) (hc : ∀ x c, X.env.cells.lookup x = some c → c ≠ a)
    (hp : ∀ p ∈ X.pn ++ pins, p.1 ≠ a) (new : ObjOk X.prog X.w (upd H a u) s.heap a u) : Inv X pins σ (upd H a u) s where
  ok := I.ok
  os := I.os
  bare := I.bare
  base := {
    keep := I.base.keep
    slot := I.base.slot
    free := fun b o e1 e2 e3 => (upd_ne (h0 b o e1 e3)).trans (I.base.free b o e1 e2 e3)
    there := I.base.there
    tups := fun b xs e1 => (upd_ne (ne_of_none (I.base.tups b xs e1) hn)).trans (I.base.tups b xs e1)
    frzs := fun b o v e1 => (upd_ne (ne_of_none (I.base.frzs b o v e1) hn)).trans (I.base.frzs b o v e1)
    tbls := fun b ps e1 => by
      obtain ⟨m, e2⟩ := I.base.tbls b ps e1
      exact ⟨m, (upd_ne (ne_of_none e2 hn)).trans e2⟩ }
  loc := I.loc
  cell := I.cell
  free := (upd_ne hl).trans I.free
  freeC := fun x c e1 => (upd_ne (hc x c e1)).trans (I.freeC x c e1)
  pin := fun p h => by
    obtain ⟨p1, p2, p3⟩ := I.pin p h
    exact ⟨p1, (upd_ne (hp p h)).trans p2, p3⟩
  hok := fun b v e1 => by
    by_cases hb : b = a
    · rw [hb] at e1 ⊢
      rw [upd_same] at e1
      cases e1
      exact new
    · rw [upd_ne hb] at e1
      exact (I.hok b v e1).stay (fun _ _ _ q => q) (fun c q => (upd_ne (ne_of_none q hn)).trans q) fun c xs q => (upd_ne (ne_of_none q hn)).trans q
  len := I.len
/-- into a suite and out of it, no exception pinned -/
theorem suite_in (a : Addr) (I : Inv X pins σ H s) : Inv (X.suite a (X.pn ++ pins)) [] σ H s where
  ok := I.ok.suite a _
  os := I.os
  bare := I.bare
  base := I.base
  loc := I.loc
  cell := I.cell
  free := I.free
  freeC := I.freeC
  pin := fun p h => I.pin p ((List.append_nil _).subst (motive := fun l => p ∈ l) h)
  hok := I.hok
  len := I.len
theorem suite_out {a : Addr} (ok : X.Ok) {l : List (Addr × Obj)} (I : Inv (X.suite a (X.pn ++ pins)) l σ H s) : Inv X pins σ H s where
  ok := ok
  os := I.os
  bare := I.bare
  base := I.base
  loc := I.loc
  cell := I.cell
  free := I.free
  freeC := I.freeC
  pin := fun p h => I.pin p (List.mem_append_left _ h)
  hok := I.hok
  len := I.len
end
/-- the ends of a suite whose name goes behind it -/
def cutE (i : Nat) (D : Ends) : Ends where
  nx := fun σ H => D.nx (σ.set i none) H
  bk := fun σ H => D.bk (σ.set i none) H
  ct := fun σ H => D.ct (σ.set i none) H
  rt := D.rt
/-- a clause: the class that it names, the slot of its name, what its suite says -/
structure Hd where
  c : Value
  i : Option Nat
  ts : TS
/-- what the clauses wish of the body's exceptions -/
def wHd (K : PySem.W.Frag) (Wout : WX) (D : Ends) : List Hd → WX
  | [] => Wout
  | q :: r => fun cls d σ H => ∃ b, PySem.W.exmOne K cls q.c = some b ∧ (b = false → wHd K Wout D r cls d σ H) ∧
      (b = true → match q.i with
        | none => q.ts D σ H
        | some i => ∀ a, H a = none → q.ts (cutE i D) (σ.set i (some (.ref a))) (upd H a (XoO cls d a)))
inductive HdOk (X : Cx) : List ExceptHandler → List Hd → Prop
  | nil : HdOk X [] []
  | only {x : Str} {c : Value} {ts : TS} {b : Stmt} {rest : List Stmt} {p1 p2 : Pos} {hs : List ExceptHandler} {l : List Hd} (hc : Names X x c) (hb : ∀ (a : Addr) (pn : List (Addr × Obj)), PSs (X.suite a pn) (b :: rest) ts) (t : HdOk X hs l) :
      HdOk X (.ExceptHandler (some (.Name x p1)) none (b :: rest) p2 :: hs) (⟨c, none, ts⟩ :: l)
  | named {x n : Str} {i : Nat} {c : Value} {ts : TS} {b : Stmt} {rest : List Stmt} {p1 p2 : Pos} {hs : List ExceptHandler} {l : List Hd} (hc : Names X x c) (hi : X.N[i]? = some n) (hk : X.env.kindOf n = some .local) (hb : ∀ (a : Addr) (pn : List (Addr × Obj)), PSs (X.suite a pn) (b :: rest) ts) (t : HdOk X hs l) :
      HdOk X (.ExceptHandler (some (.Name x p1)) (some n) (b :: rest) p2 :: hs) (⟨c, some i, ts⟩ :: l)
section
variable {X : Cx} {body : List Stmt} {h0 : ExceptHandler} {hs : List ExceptHandler} {l : List Hd} {pos : Pos} {tb : WX → TS} {Wout : WX}
theorem ps_tryH (hst : X.stack = X.env :: X.outer) (hfr : X.env.frame = some X.env.locals) (hN : X.N.Nodup) (tk : Takes X Wout)
    (hb : ∀ (W : WX) (pn : List (Addr × Obj)) (xe : Value → Shared → Prop), Takes (X.tr pn xe) W → PassesOwn (model X.prog X.w) X.A X.env xe → PSs (X.tr pn xe) body (tb W))
    (hh : HdOk X (h0 :: hs) l) : PS X (.Try body (h0 :: hs) [] [] pos) (fun D σ H => tb (wHd X.K Wout D l) D σ H) := by
  refine ⟨fun pins s σ H D I wish => ?_⟩
  have ok := I.ok
  have frames : X.A.frames = some (X.env :: X.outer) := ok.frames.trans (congrArg some hst)
  refine wpAny_Try_except ?_
  have caught : Takes (X.tr (X.pn ++ pins) (fun e s₁ => wpAny (model X.prog X.w) X.A (noteFrame e X.env) (fun _ s₂ => wpAny (model X.prog X.w) X.A (setFlight e none) (fun _ s₃ => wpAny (model X.prog X.w) X.A (handleBy e X.env (h0 :: hs)) (SP X pins D) X.xe s₃) X.xe s₂) X.xe s₁)) (wHd X.K Wout D l) := by
    rintro u s' ⟨a, B, sI, pins', σ1, H1, cls, d, rfl, J0, nb, up, sky, na, os, ag, w⟩
    have J : Inv X pins σ1 H1 sI := J0.ofTry ok
    have sky1 : Sky B (X.env :: X.outer) a (Zc cls d) X.env.locals s'.heap := hst ▸ sky
    show wpAny (model X.prog X.w) X.A (noteFrame (.ref a) X.env) _ _ _
    refine Sky.land Zc.steady frames hfr sky1 fun g1 f1 u1 => ?_
    have J1 : Inv X pins σ1 H1 { s' with heap := g1 } := J.landed nb f1.1 (up.trans u1) os ag
    obtain ⟨o1, v1, e1, z1, d1⟩ := f1.there
    have notF : a ∉ frs (X.env :: X.outer) := fun hm => by
      obtain ⟨_, o2, e2, k2⟩ := f1.2.2.1.mem hm
      rw [e1] at e2
      cases e2
      exact k2 _ d1
    have nL : a ≠ X.env.locals := fun z => notF (List.mem_filterMap.mpr ⟨X.env, List.mem_cons_self, hfr.trans (congrArg some z.symm)⟩)
    -- the exception is new to the state without it
    have fresh : sI.heap.get? a = none := by
      cases e2 : sI.heap.get? a with
      | none => rfl
      | some o2 =>
        have e3 := nb a o2 e2 (hst ▸ notF)
        rw [f1.2.1] at e3
        cases e3
    have nw : ∀ b o, sI.heap.get? b = some o → b ≠ a := fun b o e2 z => by
      rw [z, fresh] at e2
      cases e2
    have n0 : ∀ b o, X.s_0.heap.get? b = some o → b ∉ X.ex → b ≠ a := fun b o e2 e3 => by
      obtain ⟨o2, e4⟩ := J.base.there b o e2 e3
      exact nw b o2 e4
    have nC : ∀ x c, X.env.cells.lookup x = some c → c ≠ a := fun x c e2 => by
      obtain ⟨v, o2, e3, _⟩ := J.cell x c e2
      exact nw c o2 e3
    have nP : ∀ p ∈ X.pn ++ pins, p.1 ≠ a := fun p hp => nw p.1 p.2 (J.pin p hp).1
    have S1 := suite_in a J1
    have go : ∀ {hs' : List ExceptHandler} {l' : List Hd}, HdOk X hs' l' → wHd X.K Wout D l' cls d σ1 H1 → wpAny (model X.prog X.w) X.A (handleBy (.ref a) X.env hs') (SP X pins D) X.xe { s' with heap := g1 } := by
      intro hs' l' hk
      have LT : PySem.W.Looks (model X.prog X.w) g1 (typeOf (.ref a)) cls := fun A Q E s k q => wpAny_typeOf_ref (k _ _ e1) (z1.1 ▸ q)
      have test : ∀ {x : Str} {c : Value} {np : Pos} {Q : Value → Shared → Prop} {E : Value → Shared → Prop}, Names X x c → Q c { s' with heap := g1 } → wpAny (model X.prog X.w) (X.A.mark (some (.ref a))) (eval (.Name x np) X.env) Q E { s' with heap := g1 } := fun {x c np Q E} hc q => by
        rcases hc with ⟨hg, hdb, hm | ⟨hm, hv, hnn⟩⟩
        · exact ld_glob (X := X.suite a (X.pn ++ pins)) S1 hg hm q hdb
        · exact ld_blt (X := X.suite a (X.pn ++ pins)) S1 hg hm hv q hnn hdb
      induction hk with
      | nil =>
        intro w
        refine wpAny_handleBy_nil ?_
        have f2 := f1
        obtain ⟨_, _, _, oe, vs, T, oT, ts', he, hz, hd, h1, _⟩ := f2
        unfold PySem.passOn
        refine wpAny_bind (wpAny_field he hd h1 ?_)
        rw [if_neg (by simp : ¬ ((Value.ref T == Value.none) = true))]
        have fin : wpAny (model X.prog X.w) X.A (setFlight (.ref a) X.env.frame) (fun _ s4 => wpAny (model X.prog X.w) X.A (throw (.ref a) : Sem Flow) (SP X pins D) X.xe s4) X.xe { s' with heap := g1 } := by
          rw [hfr]
          refine HandSPX.setFlight_upZ f1 fun g2 hh2 u2 => wpAny_throw (tk _ _ ?_)
          refine ⟨a, B, sI, pins, σ1, H1, cls, d, rfl, J, nb, (up.trans u1).trans u2, ?_, na, os, ag, w⟩
          rw [hst]
          exact .inr (.inr hh2)
        first
          | exact wpAny_bind (wpAny_pure (wpAny_bind fin))
          | exact wpAny_bind fin
      | @only x c ts b rest p1 p2 hs2 l2 hc hsu r ih =>
        intro w
        obtain ⟨k, hk1, hno, hyes⟩ := w
        refine wpAny_handleBy_cons (codeAny_handlers_test ?_) (by intro q; cases q)
        refine test hc ((PySem.W.exm_one (M := model X.prog X.w) J1.kIn LT hk1).here ?_)
        cases k with
        | false => exact ih (hno rfl)
        | true =>
          refine codeAny_handlers_suite (HandSPX.lands_againZ f1 fun g2 f2 u2 => ?_)
          have S2 := suite_in a (J.landed (s' := { s' with heap := g2 }) nb f2.1 ((up.trans u1).trans u2) os ag)
          refine wpAny_mono ((hsu a (X.pn ++ pins)).run [] _ _ H1 _ S2 (hyes rfl)) (fun f s6 z => ?_) (fun _ _ z => False.elim z)
          cases f with
          | next =>
            obtain ⟨σ6, H6, S6, q6⟩ := z
            exact ⟨_, _, suite_out ok S6, q6⟩
          | brk =>
            obtain ⟨σ6, H6, S6, q6⟩ := z
            exact ⟨_, _, suite_out ok S6, q6⟩
          | cont =>
            obtain ⟨σ6, H6, S6, q6⟩ := z
            exact ⟨_, _, suite_out ok S6, q6⟩
          | ret u =>
            obtain ⟨v6, σ6, H6, S6, r6, q6⟩ := z
            exact ⟨_, _, _, suite_out ok S6, r6, q6⟩
      | @named x n i c ts b rest p1 p2 hs2 l2 hc hi hkd hsu r ih =>
        intro w
        obtain ⟨k, hk1, hno, hyes⟩ := w
        refine wpAny_handleBy_cons (codeAny_handlers_test ?_) (by intro q; cases q)
        refine test hc ((PySem.W.exm_one (M := model X.prog X.w) J1.kIn LT hk1).here ?_)
        cases k with
        | false => exact ih (hno rfl)
        | true =>
          refine codeAny_handlers_suite_as (HandSPX.lands_againZ f1 fun g2 f2 u2 => ?_)
          have J2 := J.landed (s' := { s' with heap := g2 }) nb f2.1 ((up.trans u1).trans u2) os ag
          obtain ⟨o2, v2, e2, z2, d2⟩ := f2.there
          have J3 := told_inv J2 na n0 (Ne.symm nL) nC nP (xoO_ok (vs := v2) e2 z2 d2)
          have S3 := suite_in a J3
          refine store_ok (X := X.suite a (X.pn ++ pins)) (v := .ref a) S3 hN hi (Or.inl hkd) rfl (fun s5 S5 => ?_) (.inr hkd)
          refine wpAny_mono ((hsu a (X.pn ++ pins)).run [] s5 _ _ _ S5 (hyes rfl a na)) (fun f s6 z => ?_) (fun _ _ z => False.elim z)
          have ends : ∀ {σ6 : L2.St} {H6 : Hp} {Q : Shared → Prop}, Inv (X.suite a (X.pn ++ pins)) [] σ6 H6 s6 → (∀ s7, Inv X pins (σ6.set i none) H6 s7 → Q s7) →
              wpAny (model X.prog X.w) X.A (do bindName X.env n .none; unbindBehindTheSuite X.env n p2) (fun _ s7 => Q s7) X.xe s6 := fun {σ6 H6 Q} S6 hq => gone_ok (suite_out ok S6) hN hi hkd hq
          cases f with
          | next =>
            obtain ⟨σ6, H6, S6, q6⟩ := z
            exact ends S6 fun s7 J7 => ⟨_, _, J7, q6⟩
          | brk =>
            obtain ⟨σ6, H6, S6, q6⟩ := z
            exact ends S6 fun s7 J7 => ⟨_, _, J7, q6⟩
          | cont =>
            obtain ⟨σ6, H6, S6, q6⟩ := z
            exact ends S6 fun s7 J7 => ⟨_, _, J7, q6⟩
          | ret u =>
            obtain ⟨v6, σ6, H6, S6, r6, q6⟩ := z
            exact ends S6 fun s7 J7 => ⟨_, _, _, J7, r6, q6⟩
    exact go hh w
  refine wpAny_mono ((hb (wHd X.K Wout D l) (X.pn ++ pins) _ caught PassesOwn.looking).run [] s σ H D (I.toTry _) wish) (fun f s1 z => ?_) (fun e s1 z => z)
  cases f with
  | next =>
    obtain ⟨σ1, H1, I1, q⟩ := z
    exact wpAny_execs_nil ⟨σ1, H1, I1.ofTry ok, q⟩
  | brk =>
    obtain ⟨σ1, H1, I1, q⟩ := z
    exact ⟨σ1, H1, I1.ofTry ok, q⟩
  | cont =>
    obtain ⟨σ1, H1, I1, q⟩ := z
    exact ⟨σ1, H1, I1.ofTry ok, q⟩
  | ret u =>
    obtain ⟨v, σ1, H1, I1, r, q⟩ := z
    exact ⟨v, σ1, H1, I1.ofTry ok, r, q⟩
end
end Dv

set_option maxRecDepth 100000
set_option maxHeartbeats 4000000
/-! Data: what a value is, apart from where it stands. -/
namespace Dv
open PySem PySem.Spec PyProof.Rows L2

/-- data: rf j is a cell (a list, a dict, an instance that may still change); ro: a list that nobody may write (the script) -/
inductive D where
  | non | bl (b : Bool) | int (i : Int) | str (s : Str)
  | lst (xs : List D) | tup (xs : List D)
  | obj (c : Nat) (fs : List (Str × D))
  | ro (xs : List D)
  | rf (j : Nat)
  | xc (c : Nat) (fs : List (Str × D))
inductive Cell where
  | gone
  | lst (xs : List D)
  | ins (c : Nat) (fs : List (Str × D))
  | dic (kvs : List (Key × D))
  | lk (kvs : List (Key × D))
structure S where
  sl : List (Option D)
  ce : List Cell
  n0 : Nat
/-- an exception: its class by number, its fields -/
structure Xc where
  cls : Nat
  fs : List (Str × D)
/-- what an evaluation gives: a value; a new list, a new instance, nobody else's; an error -/
inductive R where
  | ok (d : D) (s : S)
  | nl (xs : List D) (s : S)
  | ni (c : Nat) (fs : List (Str × D)) (s : S)
  | er (e : Xc) (s : S)
  | no
abbrev DE := S → R
inductive RA where
  | ok (ds : List D) (s : S)
  | er (e : Xc) (s : S)
  | no
abbrev DA := S → RA
inductive RB where
  | ok (b : Bool) (s : S)
  | er (e : Xc) (s : S)
  | no
abbrev DB := S → RB
inductive O where
  | nx (s : S) | bk (s : S) | ct (s : S)
  | rt (d : D) (s : S)
  | rl (xs : List D) (s : S)
  | ri (c : Nat) (fs : List (Str × D)) (s : S)
  | er (e : Xc) (s : S)
  | no
abbrev DS := S → O

/-- the text's classes by number -/
abbrev Cl := Nat → Addr

section
variable (K : PySem.W.Frag) (cl : Cl) (F : Hp) (ca : List Addr)
mutual
inductive Is : V → D → Prop
  | non : Is .non .non
  | bl (b : Bool) : Is (.bl b) (.bl b)
  | int (i : Int) : Is (.int i) (.int i)
  | str (s : Str) : Is (.str s) (.str s)
  | lst {a : Addr} {vs : List V} {ds : List D} : F a = some (.lst vs) → IsL vs ds → Is (.ref a) (.lst ds)
  | ro {a : Addr} {vs : List V} {ds : List D} : SqL K F a vs → IsL vs ds → Is (.ref a) (.ro ds)
  | tup {a : Addr} {vs : List V} {ds : List D} : SqT K F a vs → IsL vs ds → Is (.ref a) (.tup ds)
  | obj {a dx : Addr} {c : Nat} {vs : List (Str × V)} {ds : List (Str × D)} : F a = some (.ins (cl c) dx vs) → IsF vs ds → Is (.ref a) (.obj c ds)
  | rf {a : Addr} {j : Nat} : ca[j]? = some a → Is (.ref a) (.rf j)
  | xc0 {a : Addr} {c : Nat} : F a = some (XoO (.ref (cl c)) none a) → Is (.ref a) (.xc c [])
  | xcf {a dd : Addr} {c : Nat} {vs : List (Str × V)} {fs : List (Str × D)} : F a = some (XoO (.ref (cl c)) (some dd) a) → F dd = some (.xd vs) → IsF vs fs → Is (.ref a) (.xc c fs)
inductive IsL : List V → List D → Prop
  | nil : IsL [] []
  | cons {v : V} {d : D} {vs : List V} {ds : List D} : Is v d → IsL vs ds → IsL (v :: vs) (d :: ds)
inductive IsF : List (Str × V) → List (Str × D) → Prop
  | nil : IsF [] []
  | cons {k : Str} {v : V} {d : D} {vs : List (Str × V)} {ds : List (Str × D)} : Is v d → IsF vs ds → IsF ((k, v) :: vs) ((k, d) :: ds)
end
inductive IsK : List (Key × V) → List (Key × D) → Prop
  | nil : IsK [] []
  | cons {k : Key} {v : V} {d : D} {vs : List (Key × V)} {ds : List (Key × D)} : Is K cl F ca v d → IsK vs ds → IsK ((k, v) :: vs) ((k, d) :: ds)
end

abbrev Ex (H H' : Hp) : Prop := ∀ a o, H a = some o → H' a = some o
theorem Ex.refl (H : Hp) : Ex H H := fun _ _ h => h
theorem Ex.trans {H H1 H2 : Hp} (a : Ex H H1) (b : Ex H1 H2) : Ex H H2 := fun x o h => b x o (a x o h)
theorem Ex.new {H : Hp} {p : Addr} {o : HO} (h : H p = none) : Ex H (upd H p o) := fun a u e => by
  rw [upd_ne (ne_of_none e h)]
  exact e
theorem ex_rd {H H' : Hp} {a : Addr} {u : HO} (e : Ex H H') (h : Rd H a u) : Rd H' a u := by
  rcases h with h | ⟨o, h⟩
  · exact Or.inl (e a _ h)
  · exact Or.inr ⟨o, e a _ h⟩
theorem ex_l {K : PySem.W.Frag} {H H' : Hp} {a : Addr} {xs : List V} (e : Ex H H') (h : SqL K H a xs) : SqL K H' a xs := by
  rcases h with h | h
  · exact Or.inl (ex_rd e h)
  · exact Or.inr h
theorem ex_t {K : PySem.W.Frag} {H H' : Hp} {a : Addr} {xs : List V} (e : Ex H H') (h : SqT K H a xs) : SqT K H' a xs := by
  rcases h with h | h
  · exact Or.inl (ex_rd e h)
  · exact Or.inr h
/-- more cells -/
def Pre (ca ca' : List Addr) : Prop := ∀ (j : Nat) (a : Addr), ca[j]? = some a → ca'[j]? = some a
theorem Pre.refl (ca : List Addr) : Pre ca ca := fun _ _ h => h
theorem Pre.trans {a b c : List Addr} (x : Pre a b) (y : Pre b c) : Pre a c := fun j q h => y j q (x j q h)
theorem Pre.app (ca : List Addr) (l : List Addr) : Pre ca (ca ++ l) := fun j a h => by
  rw [List.getElem?_append_left (List.getElem?_eq_some_iff.mp h).1]
  exact h

section
variable {K : PySem.W.Frag} {cl : Cl} {F F' H H' : Hp} {ca ca' : List Addr}
mutual
theorem Is.mono (e : Ex F F') (p : Pre ca ca') : ∀ {v : V} {d : D}, Is K cl F ca v d → Is K cl F' ca' v d
  | _, _, .non => .non
  | _, _, .bl b => .bl b
  | _, _, .int i => .int i
  | _, _, .str s => .str s
  | _, _, .lst h l => .lst (e _ _ h) (IsL.mono e p l)
  | _, _, .ro h l => .ro (ex_l e h) (IsL.mono e p l)
  | _, _, .tup h l => .tup (ex_t e h) (IsL.mono e p l)
  | _, _, .obj h l => .obj (e _ _ h) (IsF.mono e p l)
  | _, _, .rf h => .rf (p _ _ h)
  | _, _, .xc0 h => .xc0 (e _ _ h)
  | _, _, .xcf h g l => .xcf (e _ _ h) (e _ _ g) (IsF.mono e p l)
theorem IsL.mono (e : Ex F F') (p : Pre ca ca') : ∀ {v : List V} {d : List D}, IsL K cl F ca v d → IsL K cl F' ca' v d
  | _, _, .nil => .nil
  | _, _, .cons h t => .cons (Is.mono e p h) (IsL.mono e p t)
theorem IsF.mono (e : Ex F F') (p : Pre ca ca') : ∀ {v : List (Str × V)} {d : List (Str × D)}, IsF K cl F ca v d → IsF K cl F' ca' v d
  | _, _, .nil => .nil
  | _, _, .cons h t => .cons (Is.mono e p h) (IsF.mono e p t)
end
theorem IsK.mono (e : Ex F F') (p : Pre ca ca') : ∀ {v : List (Key × V)} {d : List (Key × D)}, IsK K cl F ca v d → IsK K cl F' ca' v d
  | _, _, .nil => .nil
  | _, _, .cons h t => .cons (Is.mono e p h) (IsK.mono e p t)
theorem IsL.length : ∀ {v : List V} {d : List D}, IsL K cl F ca v d → v.length = d.length
  | _, _, .nil => rfl
  | _, _, .cons _ t => by rw [List.length_cons, List.length_cons, IsL.length t]
theorem IsL.get : ∀ {vs : List V} {ds : List D} {i : Nat} {d : D}, IsL K cl F ca vs ds → ds[i]? = some d → ∃ v, vs[i]? = some v ∧ Is K cl F ca v d
  | _, _, _, _, .nil, h => by simp at h
  | _, _, 0, _, .cons r t, h => by
    simp at h
    subst h
    exact ⟨_, rfl, r⟩
  | _, _, i + 1, d, .cons r t, h => by
    obtain ⟨v, h1, h2⟩ := IsL.get (i := i) (d := d) t (by simpa using h)
    exact ⟨v, by simpa using h1, h2⟩
theorem IsL.getV : ∀ {vs : List V} {ds : List D} {i : Nat} {v : V}, IsL K cl F ca vs ds → vs[i]? = some v → ∃ d, ds[i]? = some d ∧ Is K cl F ca v d
  | _, _, _, _, .nil, h => by simp at h
  | _, _, 0, _, .cons r t, h => by
    simp at h
    subst h
    exact ⟨_, rfl, r⟩
  | _, _, i + 1, v, .cons r t, h => by
    obtain ⟨d, h1, h2⟩ := IsL.getV (i := i) (v := v) t (by simpa using h)
    exact ⟨d, by simpa using h1, h2⟩
theorem IsL.app : ∀ {vs ws : List V} {ds es : List D}, IsL K cl F ca vs ds → IsL K cl F ca ws es → IsL K cl F ca (vs ++ ws) (ds ++ es)
  | _, _, _, _, .nil, s => s
  | _, _, _, _, .cons r t, s => .cons r (IsL.app t s)
theorem IsL.one {v : V} {d : D} (h : Is K cl F ca v d) : IsL K cl F ca [v] [d] := .cons h .nil
theorem IsL.take : ∀ {vs : List V} {ds : List D} (n : Nat), IsL K cl F ca vs ds → IsL K cl F ca (vs.take n) (ds.take n)
  | _, _, 0, _ => .nil
  | _, _, _ + 1, .nil => .nil
  | _, _, n + 1, .cons r t => .cons r (IsL.take n t)
theorem IsL.drop : ∀ {vs : List V} {ds : List D} (n : Nat), IsL K cl F ca vs ds → IsL K cl F ca (vs.drop n) (ds.drop n)
  | _, _, 0, r => r
  | _, _, _ + 1, .nil => .nil
  | _, _, n + 1, .cons r t => IsL.drop n t
theorem IsL.set {v : V} {d : D} (h : Is K cl F ca v d) : ∀ {vs : List V} {ds : List D} (n : Nat), IsL K cl F ca vs ds → IsL K cl F ca (vs.set n v) (ds.set n d)
  | _, _, _, .nil => .nil
  | _, _, 0, .cons r t => .cons h t
  | _, _, n + 1, .cons r t => .cons r (IsL.set h n t)
theorem IsL.rev {vs : List V} {ds : List D} (h : IsL K cl F ca vs ds) : IsL K cl F ca vs.reverse ds.reverse := by
  induction vs generalizing ds with
  | nil =>
    cases h
    exact .nil
  | cons v vs ih =>
    cases h with
    | cons r t =>
      rw [List.reverse_cons, List.reverse_cons]
      exact (ih t).app (.one r)
theorem IsL.rep {v : V} {d : D} (h : Is K cl F ca v d) : ∀ n : Nat, IsL K cl F ca (List.replicate n v) (List.replicate n d)
  | 0 => .nil
  | n + 1 => .cons h (IsL.rep h n)
theorem isL_ints : ∀ ns : List Int, IsL K cl F ca (ns.map V.int) (ns.map D.int)
  | [] => .nil
  | n :: ns => .cons (.int n) (isL_ints ns)
theorem isL_bls : ∀ ns : List Bool, IsL K cl F ca (ns.map V.bl) (ns.map D.bl)
  | [] => .nil
  | n :: ns => .cons (.bl n) (isL_bls ns)
theorem of_ints : ∀ {vs : List V} {ns : List Int}, IsL K cl F ca vs (ns.map D.int) → vs = ns.map V.int
  | _, [], .nil => rfl
  | _, n :: ns, .cons (.int _) t => by rw [of_ints t] <;> rfl
theorem of_bls : ∀ {vs : List V} {ns : List Bool}, IsL K cl F ca vs (ns.map D.bl) → vs = ns.map V.bl
  | _, [], .nil => rfl
  | _, n :: ns, .cons (.bl _) t => by rw [of_bls t] <;> rfl
theorem of_strs : ∀ {vs : List V} {ns : List Str}, IsL K cl F ca vs (ns.map D.str) → vs = ns.map V.str
  | _, [], .nil => rfl
  | _, n :: ns, .cons (.str _) t => by rw [of_strs t] <;> rfl
end

/-- the cell at a holds c -/
def CellOk (K : PySem.W.Frag) (cl : Cl) (F H : Hp) (ca : List Addr) (a : Addr) : Cell → Prop
  | .gone => ∃ o, H a = some o
  | .lst xs => F a = none ∧ ∃ vs, H a = some (.lst vs) ∧ IsL K cl F ca vs xs
  | .ins c fs => F a = none ∧ ∃ dx vs, H a = some (.ins (cl c) dx vs) ∧ IsF K cl F ca vs fs
  | .dic kvs => F a = none ∧ ∃ vs, H a = some (.dK vs) ∧ IsK K cl F ca vs kvs
  | .lk kvs => ∃ od vs, F a = some (.frz od (.dK vs)) ∧ H a = some (.frz od (.dK vs)) ∧ IsK K cl F ca vs kvs
def CeOk (K : PySem.W.Frag) (cl : Cl) (F H : Hp) (ca : List Addr) (ce : List Cell) : Prop :=
  ca.length = ce.length ∧ ca.Nodup ∧ ∀ (j : Nat) (a : Addr) (c : Cell), ca[j]? = some a → ce[j]? = some c → CellOk K cl F H ca a c

/-- where a def was entered: what was fixed, the heap, the cells -/
structure Ent where
  F0 : Hp
  H0 : Hp
  ca0 : List Addr

/-- the state of a body, since its entry -/
structure B (K : PySem.W.Frag) (cl : Cl) (e : Ent) (F H : Hp) (ca : List Addr) (σ : L2.St) (s : S) : Prop where
  fh : Ex F H
  exF : Ex e.F0 F
  keep : ∀ b o, e.H0 b = some o → b ∉ e.ca0 → H b = some o
  free : ∀ b o, e.H0 b = some o → e.F0 b = none → F b = none
  pre : Pre e.ca0 ca
  newc : ∀ a, a ∈ ca → a ∈ e.ca0 ∨ e.H0 a = none
  cel : CeOk K cl F H ca s.ce
  len : s.sl.length = σ.length
  slo : ∀ (i : Nat) (d : D), s.sl[i]? = some (some d) → ∃ v, σ[i]? = some (some v) ∧ Is K cl F ca v d
  hcl : ∀ b o, e.H0 b = some o → ∃ o', H b = some o'
  n0 : e.ca0.length = s.n0

/-- a list just made, an instance just made: nobody else's -/
def NL (K : PySem.W.Frag) (cl : Cl) (e : Ent) (F H : Hp) (ca : List Addr) (v : V) (xs : List D) : Prop := ∃ a vs, v = .ref a ∧ H a = some (.lst vs) ∧ IsL K cl F ca vs xs ∧ F a = none ∧ a ∉ ca ∧ e.H0 a = none
def NI (K : PySem.W.Frag) (cl : Cl) (e : Ent) (F H : Hp) (ca : List Addr) (v : V) (c : Nat) (fs : List (Str × D)) : Prop := ∃ a dx vs, v = .ref a ∧ H a = some (.ins (cl c) dx vs) ∧ IsF K cl F ca vs fs ∧ F a = none ∧ a ∉ ca ∧ e.H0 a = none
/-- an exception as the heap has it -/
def XOk (K : PySem.W.Frag) (cl : Cl) (F H : Hp) (ca : List Addr) (cls : Value) (dd : Option Addr) (x : Xc) : Prop :=
  cls = .ref (cl x.cls) ∧ match x.fs with
    | [] => dd = none
    | fs => ∃ a vs, dd = some a ∧ F a = some (.xd vs) ∧ IsF K cl F ca vs fs

section
variable (K : PySem.W.Frag) (cl : Cl) (e : Ent) (W : WX)
/-- the reading of an expression by what it gives: what is wished of its result -/
def rdK (σ : L2.St) (F : Hp) (ca : List Addr) (Q : VK) : R → Prop
  | .ok d s' => ∀ v F' H' ca', B K cl e F' H' ca' σ s' → Ex F F' → Pre ca ca' → Is K cl F' ca' v d → Q v H'
  | .nl xs s' => ∀ v F' H' ca', B K cl e F' H' ca' σ s' → Ex F F' → Pre ca ca' → NL K cl e F' H' ca' v xs → Q v H'
  | .ni c fs s' => ∀ v F' H' ca', B K cl e F' H' ca' σ s' → Ex F F' → Pre ca ca' → NI K cl e F' H' ca' v c fs → Q v H'
  | .er x s' => ∀ cls dd F' H' ca', B K cl e F' H' ca' σ s' → Ex F F' → Pre ca ca' → XOk K cl F' H' ca' cls dd x → W cls dd σ H'
  | .no => False
def rd (f : DE) : TE := fun σ H Q => ∃ F ca s, B K cl e F H ca σ s ∧ rdK K cl e W σ F ca Q (f s)
def rdAK (σ : L2.St) (F : Hp) (ca : List Addr) (Q : List V → Hp → Prop) : RA → Prop
  | .ok ds s' => ∀ vs F' H' ca', B K cl e F' H' ca' σ s' → Ex F F' → Pre ca ca' → IsL K cl F' ca' vs ds → Q vs H'
  | .er x s' => ∀ cls dd F' H' ca', B K cl e F' H' ca' σ s' → Ex F F' → Pre ca ca' → XOk K cl F' H' ca' cls dd x → W cls dd σ H'
  | .no => False
def rdA (f : DA) : TA := fun σ H Q => ∃ F ca s, B K cl e F H ca σ s ∧ rdAK K cl e W σ F ca Q (f s)
def rdBK (σ : L2.St) (F : Hp) (ca : List Addr) (Q : Bool → Hp → Prop) : RB → Prop
  | .ok b s' => ∀ F' H' ca', B K cl e F' H' ca' σ s' → Ex F F' → Pre ca ca' → Q b H'
  | .er x s' => ∀ cls dd F' H' ca', B K cl e F' H' ca' σ s' → Ex F F' → Pre ca ca' → XOk K cl F' H' ca' cls dd x → W cls dd σ H'
  | .no => False
def rdB (f : DB) : TT := fun σ H Q => ∃ F ca s, B K cl e F H ca σ s ∧ rdBK K cl e W σ F ca Q (f s)
def rdSK (F : Hp) (ca : List Addr) (Dn : Ends) : O → Prop
  | .nx s' => ∀ σ' F' H' ca', B K cl e F' H' ca' σ' s' → Ex F F' → Pre ca ca' → Dn.nx σ' H'
  | .bk s' => ∀ σ' F' H' ca', B K cl e F' H' ca' σ' s' → Ex F F' → Pre ca ca' → Dn.bk σ' H'
  | .ct s' => ∀ σ' F' H' ca', B K cl e F' H' ca' σ' s' → Ex F F' → Pre ca ca' → Dn.ct σ' H'
  | .rt d s' => ∀ v σ' F' H' ca', B K cl e F' H' ca' σ' s' → Ex F F' → Pre ca ca' → Is K cl F' ca' v d → Dn.rt v H'
  | .rl xs s' => ∀ v σ' F' H' ca', B K cl e F' H' ca' σ' s' → Ex F F' → Pre ca ca' → NL K cl e F' H' ca' v xs → Dn.rt v H'
  | .ri c fs s' => ∀ v σ' F' H' ca', B K cl e F' H' ca' σ' s' → Ex F F' → Pre ca ca' → NI K cl e F' H' ca' v c fs → Dn.rt v H'
  | .er x s' => ∀ cls dd σ' F' H' ca', B K cl e F' H' ca' σ' s' → Ex F F' → Pre ca ca' → XOk K cl F' H' ca' cls dd x → W cls dd σ' H'
  | .no => False
def rdS (f : DS) : TS := fun Dn σ H => ∃ F ca s, B K cl e F H ca σ s ∧ rdSK K cl e W F ca Dn (f s)
end
/-! the wish is kept where the start grows -/
section
variable {K : PySem.W.Frag} {cl : Cl} {e : Ent} {W : WX} {F F1 : Hp} {ca ca1 : List Addr} {σ : L2.St}
theorem rdK.back (eF : Ex F F1) (pr : Pre ca ca1) {Q : VK} {r : R} (h : rdK K cl e W σ F ca Q r) : rdK K cl e W σ F1 ca1 Q r := by
  cases r with
  | ok d s => exact fun v F' H' ca' b x p => h v F' H' ca' b (eF.trans x) (pr.trans p)
  | nl d s => exact fun v F' H' ca' b x p => h v F' H' ca' b (eF.trans x) (pr.trans p)
  | ni c d s => exact fun v F' H' ca' b x p => h v F' H' ca' b (eF.trans x) (pr.trans p)
  | er x s => exact fun cls dd F' H' ca' b x p => h cls dd F' H' ca' b (eF.trans x) (pr.trans p)
  | no => exact h
theorem rdAK.back (eF : Ex F F1) (pr : Pre ca ca1) {Q : List V → Hp → Prop} {r : RA} (h : rdAK K cl e W σ F ca Q r) : rdAK K cl e W σ F1 ca1 Q r := by
  cases r with
  | ok d s => exact fun v F' H' ca' b x p => h v F' H' ca' b (eF.trans x) (pr.trans p)
  | er x s => exact fun cls dd F' H' ca' b x p => h cls dd F' H' ca' b (eF.trans x) (pr.trans p)
  | no => exact h
theorem rdBK.back (eF : Ex F F1) (pr : Pre ca ca1) {Q : Bool → Hp → Prop} {r : RB} (h : rdBK K cl e W σ F ca Q r) : rdBK K cl e W σ F1 ca1 Q r := by
  cases r with
  | ok d s => exact fun F' H' ca' b x p => h F' H' ca' b (eF.trans x) (pr.trans p)
  | er x s => exact fun cls dd F' H' ca' b x p => h cls dd F' H' ca' b (eF.trans x) (pr.trans p)
  | no => exact h
theorem rdSK.back (eF : Ex F F1) (pr : Pre ca ca1) {Dn : Ends} {r : O} (h : rdSK K cl e W F ca Dn r) : rdSK K cl e W F1 ca1 Dn r := by
  cases r with
  | nx s => exact fun σ' F' H' ca' b x p => h σ' F' H' ca' b (eF.trans x) (pr.trans p)
  | bk s => exact fun σ' F' H' ca' b x p => h σ' F' H' ca' b (eF.trans x) (pr.trans p)
  | ct s => exact fun σ' F' H' ca' b x p => h σ' F' H' ca' b (eF.trans x) (pr.trans p)
  | rt d s => exact fun v σ' F' H' ca' b x p => h v σ' F' H' ca' b (eF.trans x) (pr.trans p)
  | rl d s => exact fun v σ' F' H' ca' b x p => h v σ' F' H' ca' b (eF.trans x) (pr.trans p)
  | ri c d s => exact fun v σ' F' H' ca' b x p => h v σ' F' H' ca' b (eF.trans x) (pr.trans p)
  | er x s => exact fun cls dd σ' F' H' ca' b x p => h cls dd σ' F' H' ca' b (eF.trans x) (pr.trans p)
  | no => exact h
end
end Dv

set_option maxRecDepth 100000
set_option maxHeartbeats 4000000
/-! the state's lemmas; values, operators, tests, displays -/
namespace Dv
open PySem PySem.Spec PyProof.Rows L2

section
variable {K : PySem.W.Frag} {cl : Cl} {e : Ent} {F F' H H' : Hp} {ca ca' : List Addr} {σ : L2.St} {s : S} {p a : Addr} {o : HO}
theorem CellOk.there {c : Cell} (h : CellOk K cl F H ca a c) : ∃ o, H a = some o := by
  cases c with
  | gone => exact h
  | lst xs =>
    obtain ⟨_, vs, h, _⟩ := h
    exact ⟨_, h⟩
  | ins c fs =>
    obtain ⟨_, dx, vs, h, _⟩ := h
    exact ⟨_, h⟩
  | dic kvs =>
    obtain ⟨_, vs, h, _⟩ := h
    exact ⟨_, h⟩
  | lk kvs =>
    obtain ⟨od, vs, _, h, _⟩ := h
    exact ⟨_, h⟩
theorem CellOk.mono {c : Cell} (h : CellOk K cl F H ca a c) (eF : Ex F F') (hF : F a = none → F' a = none) (eH : H' a = H a) (pr : Pre ca ca') : CellOk K cl F' H' ca' a c := by
  cases c with
  | gone =>
    obtain ⟨o, h⟩ := h
    exact ⟨o, eH.trans h⟩
  | lst xs =>
    obtain ⟨h0, vs, h, i⟩ := h
    exact ⟨hF h0, vs, eH.trans h, i.mono eF pr⟩
  | ins c fs =>
    obtain ⟨h0, dx, vs, h, i⟩ := h
    exact ⟨hF h0, dx, vs, eH.trans h, i.mono eF pr⟩
  | dic kvs =>
    obtain ⟨h0, vs, h, i⟩ := h
    exact ⟨hF h0, vs, eH.trans h, i.mono eF pr⟩
  | lk kvs =>
    obtain ⟨od, vs, h0, h, i⟩ := h
    exact ⟨od, vs, eF _ _ h0, eH.trans h, i.mono eF pr⟩
theorem CeOk.at_ (h : CeOk K cl F H ca s.ce) {j : Nat} (hj : ca[j]? = some a) : ∃ c, s.ce[j]? = some c ∧ CellOk K cl F H ca a c := by
  have hl : j < s.ce.length := by rw [← h.1]; exact (List.getElem?_eq_some_iff.mp hj).1
  exact ⟨s.ce[j], List.getElem?_eq_getElem hl, h.2.2 j a _ hj (List.getElem?_eq_getElem hl)⟩
theorem CeOk.mem (h : CeOk K cl F H ca s.ce) (ha : a ∈ ca) : ∃ o, H a = some o := by
  obtain ⟨j, hj⟩ := List.mem_iff_getElem?.mp ha
  obtain ⟨c, _, x⟩ := h.at_ hj
  exact x.there
theorem B.notca (b : B K cl e F H ca σ s) (h : H p = none) : p ∉ ca := fun hp => by
  obtain ⟨o, q⟩ := b.cel.mem hp
  rw [h] at q
  cases q
theorem B.notF (b : B K cl e F H ca σ s) (h : H p = none) : F p = none := by
  cases q : F p with
  | none => rfl
  | some o =>
    rw [b.fh p o q] at h
    cases h
theorem B.notH0 (b : B K cl e F H ca σ s) (h : H p = none) : e.H0 p = none := by
  cases q : e.H0 p with
  | none => rfl
  | some o =>
    obtain ⟨o', z⟩ := b.hcl p o q
    rw [h] at z
    cases z
/-- a new object, nobody's yet -/
theorem B.laid (b : B K cl e F H ca σ s) (h : H p = none) : B K cl e F (upd H p o) ca σ s where
  fh := fun c u q => by rw [upd_ne (ne_of_none (b.fh c u q) h)]; exact b.fh c u q
  exF := b.exF
  keep := fun c u q n => by rw [upd_ne (ne_of_none q (b.notH0 h))]; exact b.keep c u q n
  free := b.free
  pre := b.pre
  newc := b.newc
  cel := ⟨b.cel.1, b.cel.2.1, fun j c x h1 h2 => (b.cel.2.2 j c x h1 h2).mono (Ex.refl F) id (upd_ne fun z => b.notca h (z ▸ List.mem_of_getElem? h1)) (Pre.refl ca)⟩
  len := b.len
  slo := b.slo
  hcl := fun c u q => by
    obtain ⟨o', z⟩ := b.hcl c u q
    exact ⟨o', by rw [upd_ne (ne_of_none q (b.notH0 h))]; exact z⟩
  n0 := b.n0
/-- a pending object is fixed -/
theorem B.fix (b : B K cl e F H ca σ s) (hp : H p = some o) (hF : F p = none) (hc : p ∉ ca) (h0 : e.H0 p = none) : B K cl e (upd F p o) H ca σ s where
  fh := fun c u q => by
    by_cases z : c = p
    · subst z
      rw [upd_same] at q
      rw [← q]
      exact hp
    · rw [upd_ne z] at q
      exact b.fh c u q
  exF := fun c u q => by rw [upd_ne (ne_of_none (b.exF c u q) hF)]; exact b.exF c u q
  keep := b.keep
  free := fun c u q n => by
    rw [upd_ne (ne_of_none q h0)]
    exact b.free c u q n
  pre := b.pre
  newc := b.newc
  cel := ⟨b.cel.1, b.cel.2.1, fun j c x h1 h2 => (b.cel.2.2 j c x h1 h2).mono (Ex.new hF) (fun n => by
      have z : c ≠ p := fun z => by
        subst z
        exact hc (List.mem_of_getElem? h1)
      rw [upd_ne z]
      exact n) rfl (Pre.refl ca)⟩
  len := b.len
  slo := fun i d q => by
    obtain ⟨v, h1, h2⟩ := b.slo i d q
    exact ⟨v, h1, h2.mono (Ex.new hF) (Pre.refl ca)⟩
  hcl := b.hcl
  n0 := b.n0
/-- a pending object becomes a cell -/
theorem B.cell {c : Cell} (b : B K cl e F H ca σ s) (hx : CellOk K cl F H ca p c) (hc : p ∉ ca) (h0 : e.H0 p = none) : B K cl e F H (ca ++ [p]) σ ⟨s.sl, s.ce ++ [c], s.n0⟩ where
  fh := b.fh
  exF := b.exF
  keep := b.keep
  free := b.free
  pre := b.pre.trans (Pre.app ca [p])
  newc := fun x hx => by
    rcases List.mem_append.mp hx with z | z
    · exact b.newc x z
    · have : x = p := by simpa using z
      subst this
      exact .inr h0
  cel := by
    refine ⟨by rw [List.length_append, List.length_append, b.cel.1] <;> rfl, ?_, fun j x y h1 h2 => ?_⟩
    · rw [List.nodup_append]
      exact ⟨b.cel.2.1, by simp, fun x hm y hy z => by
        have : y = p := by simpa using hy
        subst this
        subst z
        exact hc hm⟩
    · by_cases hj : j < ca.length
      · rw [List.getElem?_append_left hj] at h1
        rw [List.getElem?_append_left (by rw [← b.cel.1]; exact hj)] at h2
        exact (b.cel.2.2 j x y h1 h2).mono (Ex.refl F) id rfl (Pre.app ca [p])
      · have hj' : ca.length ≤ j := Nat.le_of_not_lt hj
        rw [List.getElem?_append_right hj'] at h1
        rw [List.getElem?_append_right (by rw [← b.cel.1]; exact hj'), ← b.cel.1] at h2
        cases q : j - ca.length with
        | zero =>
          rw [q] at h1 h2
          simp at h1 h2
          subst h1
          subst h2
          exact hx.mono (Ex.refl F) id rfl (Pre.app ca [p])
        | succ n =>
          rw [q] at h1
          simp at h1
  len := b.len
  slo := fun i d q => by
    obtain ⟨v, h1, h2⟩ := b.slo i d q
    exact ⟨v, h1, h2.mono (Ex.refl F) (Pre.app ca [p])⟩
  hcl := b.hcl
  n0 := b.n0
/-- a slot is stored -/
theorem B.put {i : Nat} {v : V} {d : D} (b : B K cl e F H ca σ s) (h : Is K cl F ca v d) : B K cl e F H ca (σ.set i (some v)) ⟨s.sl.set i (some d), s.ce, s.n0⟩ :=
  { fh := b.fh, exF := b.exF, keep := b.keep, free := b.free, pre := b.pre, newc := b.newc, cel := b.cel,
    len := by rw [List.length_set, List.length_set]; exact b.len,
    slo := fun j x q => by
      by_cases z : j = i
      · subst z
        by_cases hj : j < s.sl.length
        · rw [List.getElem?_set_self hj] at q
          have e1 : d = x := Option.some.inj (Option.some.inj q)
          subst e1
          exact ⟨v, by rw [List.getElem?_set_self (by rw [← b.len]; exact hj)], h⟩
        · rw [List.getElem?_eq_none (by rw [List.length_set]; omega)] at q
          cases q
      · rw [List.getElem?_set_ne (Ne.symm z)] at q
        obtain ⟨w, h1, h2⟩ := b.slo j x q
        exact ⟨w, by rw [List.getElem?_set_ne (Ne.symm z)]; exact h1, h2⟩,
    hcl := b.hcl, n0 := b.n0 }
/-- slots forgotten: whatever the state says of fewer of them -/
theorem B.less {σ' : L2.St} {sl' : List (Option D)} (b : B K cl e F H ca σ s) (hl : sl'.length = σ'.length) (h : ∀ (i : Nat) (d : D), sl'[i]? = some (some d) → ∃ v, σ'[i]? = some (some v) ∧ Is K cl F ca v d) : B K cl e F H ca σ' ⟨sl', s.ce, s.n0⟩ :=
  { fh := b.fh, exF := b.exF, keep := b.keep, free := b.free, pre := b.pre, newc := b.newc, cel := b.cel, len := hl, slo := h, hcl := b.hcl, n0 := b.n0 }
/-- a cell is written -/
theorem B.write {j : Nat} {c : Cell} (b : B K cl e F H ca σ s) (hj : ca[j]? = some a) (hF : F a = none) (new : CellOk K cl F (upd H a o) ca a c) : B K cl e F (upd H a o) ca σ ⟨s.sl, s.ce.set j c, s.n0⟩ where
  fh := fun x u q => by rw [upd_ne (ne_of_none q hF)]; exact b.fh x u q
  exF := b.exF
  keep := fun x u q n => by
    have hx : x ≠ a := fun z => by
      subst z
      rcases b.newc x (List.mem_of_getElem? hj) with w | w
      · exact n w
      · rw [q] at w
        cases w
    rw [upd_ne hx]
    exact b.keep x u q n
  free := b.free
  pre := b.pre
  newc := b.newc
  cel := by
    refine ⟨by rw [List.length_set]; exact b.cel.1, b.cel.2.1, fun k x y h1 h2 => ?_⟩
    by_cases z : k = j
    · subst z
      rw [h1] at hj
      cases hj
      have hk : k < s.ce.length := by rw [← b.cel.1]; exact (List.getElem?_eq_some_iff.mp h1).1
      rw [List.getElem?_set_self hk] at h2
      cases h2
      exact new
    · rw [List.getElem?_set_ne (Ne.symm z)] at h2
      have hx : x ≠ a := fun w => by
        subst w
        obtain ⟨l1, e1⟩ := List.getElem?_eq_some_iff.mp h1
        obtain ⟨l2, e2⟩ := List.getElem?_eq_some_iff.mp hj
        exact z ((List.getElem_inj b.cel.2.1).mp (e1.trans e2.symm))
      exact (b.cel.2.2 k x y h1 h2).mono (Ex.refl F) id (upd_ne hx) (Pre.refl ca)
  len := b.len
  slo := b.slo
  hcl := fun x u q => by
    by_cases z : x = a
    · subst z
      exact ⟨o, upd_same⟩
    · obtain ⟨o', w⟩ := b.hcl x u q
      exact ⟨o', by rw [upd_ne z]; exact w⟩
  n0 := b.n0
/-- a cell of the body's own -/
theorem B.own {j : Nat} (b : B K cl e F H ca σ s) (hj : ca[j]? = some a) (h : s.n0 ≤ j) : a ∉ e.ca0 := fun hm => by
  obtain ⟨i, hi⟩ := List.mem_iff_getElem?.mp hm
  obtain ⟨l1, e1⟩ := List.getElem?_eq_some_iff.mp (b.pre i a hi)
  obtain ⟨l2, e2⟩ := List.getElem?_eq_some_iff.mp hj
  have z := (List.getElem_inj b.cel.2.1).mp (e1.trans e2.symm)
  have l3 := (List.getElem?_eq_some_iff.mp hi).1
  rw [b.n0] at l3
  omega
theorem B.freeze {j : Nat} (b : B K cl e F H ca σ s) (hj : ca[j]? = some a) (hn : a ∉ e.ca0) (hF : F a = none) (hH : H a = some o) : B K cl e (upd F a o) H ca σ ⟨s.sl, s.ce.set j .gone, s.n0⟩ where
  fh := fun c u q => by
    by_cases z : c = a
    · subst z
      rw [upd_same] at q
      rw [← q]
      exact hH
    · rw [upd_ne z] at q
      exact b.fh c u q
  exF := fun c u q => by rw [upd_ne (ne_of_none (b.exF c u q) hF)]; exact b.exF c u q
  keep := b.keep
  free := fun c u q n => by
    have hx : c ≠ a := fun z => by
      subst z
      rcases b.newc c (List.mem_of_getElem? hj) with w | w
      · exact hn w
      · rw [q] at w
        cases w
    rw [upd_ne hx]
    exact b.free c u q n
  pre := b.pre
  newc := b.newc
  cel := by
    refine ⟨by rw [List.length_set]; exact b.cel.1, b.cel.2.1, fun k x y h1 h2 => ?_⟩
    by_cases z : k = j
    · subst z
      rw [h1] at hj
      cases hj
      have hk : k < s.ce.length := by rw [← b.cel.1]; exact (List.getElem?_eq_some_iff.mp h1).1
      rw [List.getElem?_set_self hk] at h2
      cases h2
      exact ⟨o, hH⟩
    · rw [List.getElem?_set_ne (Ne.symm z)] at h2
      have hx : x ≠ a := fun w => by
        subst w
        obtain ⟨l1, e1⟩ := List.getElem?_eq_some_iff.mp h1
        obtain ⟨l2, e2⟩ := List.getElem?_eq_some_iff.mp hj
        exact z ((List.getElem_inj b.cel.2.1).mp (e1.trans e2.symm))
      exact (b.cel.2.2 k x y h1 h2).mono (Ex.new hF) (fun n => by rw [upd_ne hx]; exact n) rfl (Pre.refl ca)
  len := b.len
  slo := fun i d q => by
    obtain ⟨v, h1, h2⟩ := b.slo i d q
    exact ⟨v, h1, h2.mono (Ex.new hF) (Pre.refl ca)⟩
  hcl := b.hcl
  n0 := b.n0

def cellL : Option Cell → Option (List D)
  | some (.lst xs) => some xs
  | _ => none
/-- the items of a list, fixed or a cell -/
def look (ce : List Cell) : D → Option (List D)
  | .lst xs => some xs
  | .ro xs => some xs
  | .rf j => cellL ce[j]?
  | _ => none
theorem look_ok {v : V} {d : D} {xs : List D} (b : B K cl e F H ca σ s) (h : Is K cl F ca v d) (q : look s.ce d = some xs) : ∃ a vs, v = .ref a ∧ SqL K H a vs ∧ IsL K cl F ca vs xs := by
  cases h with
  | lst hl hi =>
    cases q
    exact ⟨_, _, rfl, SqL.of (b.fh _ _ hl), hi⟩
  | ro hl hi =>
    cases q
    exact ⟨_, _, rfl, ex_l b.fh hl, hi⟩
  | rf hj =>
    obtain ⟨c, h1, h2⟩ := b.cel.at_ hj
    have q' : cellL s.ce[_]? = some xs := q
    rw [h1] at q'
    cases c with
    | lst ys =>
      cases q'
      obtain ⟨_, vs, e1, e2⟩ := h2
      exact ⟨_, vs, rfl, SqL.of e1, e2⟩
    | _ => cases q'
  | _ => cases q
/-- .. that is tracked as it stands -/
def lookT (ce : List Cell) : D → Option (List D)
  | .lst xs => some xs
  | .rf j => cellL ce[j]?
  | _ => none
theorem lookT_ok {v : V} {d : D} {xs : List D} (b : B K cl e F H ca σ s) (h : Is K cl F ca v d) (q : lookT s.ce d = some xs) : ∃ a vs, v = .ref a ∧ H a = some (.lst vs) ∧ IsL K cl F ca vs xs := by
  cases h with
  | lst hl hi =>
    cases q
    exact ⟨_, _, rfl, b.fh _ _ hl, hi⟩
  | rf hj =>
    obtain ⟨c, h1, h2⟩ := b.cel.at_ hj
    have q' : cellL s.ce[_]? = some xs := q
    rw [h1] at q'
    cases c with
    | lst ys =>
      cases q'
      obtain ⟨_, vs, e1, e2⟩ := h2
      exact ⟨_, vs, rfl, e1, e2⟩
    | _ => cases q'
  | _ => cases q
/-- a list cell to be written -/
theorem cell_ok {v : V} {j : Nat} {xs : List D} (b : B K cl e F H ca σ s) (h : Is K cl F ca v (.rf j)) (q : s.ce[j]? = some (.lst xs)) : ∃ a vs, v = .ref a ∧ ca[j]? = some a ∧ H a = some (.lst vs) ∧ IsL K cl F ca vs xs ∧ F a = none := by
  cases h with
  | rf hj =>
    obtain ⟨c, h1, h2⟩ := b.cel.at_ hj
    rw [q] at h1
    cases h1
    obtain ⟨h0, vs, e1, e2⟩ := h2
    exact ⟨_, vs, rfl, hj, e1, e2, h0⟩
end

/-! ### weakening -/
section
variable {X : Cx}
theorem pe_w {x : Expr} {t t' : TE} (h : PE X x t) (w : ∀ σ H Q, t' σ H Q → t σ H Q) : PE X x t' := ⟨fun pins s σ H Q I q => h.run pins s σ H Q I (w σ H Q q)⟩
theorem pt_w {x : Expr} {t t' : TT} (h : PT X x t) (w : ∀ σ H Q, t' σ H Q → t σ H Q) : PT X x t' := ⟨fun pins s σ H Q I q => h.run pins s σ H Q I (w σ H Q q)⟩
theorem pw_w {x : Expr} {t t' : TT} (h : PW X x t) (w : ∀ σ H Q, t' σ H Q → t σ H Q) : PW X x t' := ⟨fun wh pins s σ H Q I q => h.run wh pins s σ H Q I (w σ H Q q)⟩
theorem pa_w {x : List Expr} {t t' : TA} (h : PA X x t) (w : ∀ σ H Q, t' σ H Q → t σ H Q) : PA X x t' := ⟨fun pos pins s σ H Q I q => h.run pos pins s σ H Q I (w σ H Q q)⟩
theorem ps_w {x : Stmt} {t t' : TS} (h : PS X x t) (w : ∀ D σ H, t' D σ H → t D σ H) : PS X x t' := ⟨fun pins s σ H D I q => h.run pins s σ H D I (w D σ H q)⟩
theorem pss_w {x : List Stmt} {t t' : TS} (h : PSs X x t) (w : ∀ D σ H, t' D σ H → t D σ H) : PSs X x t' := ⟨fun pins s σ H D I q => h.run pins s σ H D I (w D σ H q)⟩
end
end Dv

set_option maxRecDepth 100000
set_option maxHeartbeats 4000000
namespace Dv
open PySem PySem.Spec PyProof.Rows L2

/-! ### what they mean -/
def dVar (i : Nat) : DE := fun s => match s.sl[i]? with
  | some (some d) => .ok d s
  | _ => .no
def dC (d : D) : DE := fun s => .ok d s
/-- the cell in slot i becomes data -/
def shareC (i j : Nat) (s : S) : Option Cell → R
  | some (.lst xs) => .ok (.lst xs) ⟨s.sl.set i (some (.lst xs)), s.ce.set j .gone, s.n0⟩
  | some (.ins c fs) => .ok (.obj c fs) ⟨s.sl.set i (some (.obj c fs)), s.ce.set j .gone, s.n0⟩
  | _ => .no
def shareK (i : Nat) (s : S) : D → R
  | .rf j => if s.n0 ≤ j then shareC i j s s.ce[j]? else .no
  | d => .ok d s
def dShare (i : Nat) : DE := fun s => match s.sl[i]? with
  | some (some d) => shareK i s d
  | _ => .no
/-- a new thing is data from now on | is a cell -/
def fzK : R → R
  | .nl xs s => .ok (.lst xs) s
  | .ni c fs s => .ok (.obj c fs) s
  | r => r
def dFz (f : DE) : DE := fun s => fzK (f s)
def ceK : R → R
  | .nl xs s => .ok (.rf s.ce.length) ⟨s.sl, s.ce ++ [.lst xs], s.n0⟩
  | .ni c fs s => .ok (.rf s.ce.length) ⟨s.sl, s.ce ++ [.ins c fs], s.n0⟩
  | r => r
def dCe (f : DE) : DE := fun s => ceK (f s)
/-- what two values give: a value, a new list -/
inductive Po where
  | v (d : D)
  | l (xs : List D)
  | no
def poK (s : S) : Po → R
  | .v d => .ok d s
  | .l xs => .nl xs s
  | .no => .no
def bindR : R → (D → S → R) → R
  | .ok d s, k => k d s
  | .er x s, _ => .er x s
  | _, _ => .no
def dOp (p : List Cell → D → D → Po) (f g : DE) : DE := fun s => bindR (f s) fun d1 s1 => bindR (g s1) fun d2 s2 => poK s2 (p s2.ce d1 d2)
def dUn (p : List Cell → D → Po) (f : DE) : DE := fun s => bindR (f s) fun d1 s1 => poK s1 (p s1.ce d1)
def bindRA : R → (D → S → RA) → RA
  | .ok d s, k => k d s
  | .er x s, _ => .er x s
  | _, _ => .no
def bindA : RA → (List D → S → RA) → RA
  | .ok d s, k => k d s
  | .er x s, _ => .er x s
  | _, _ => .no
def bindAR : RA → (List D → S → R) → R
  | .ok d s, k => k d s
  | .er x s, _ => .er x s
  | _, _ => .no
def aNil : DA := fun s => .ok [] s
def aCons (f : DE) (g : DA) : DA := fun s => bindRA (f s) fun d s1 => bindA (g s1) fun ds s2 => .ok (d :: ds) s2
/-- a built-in by values -/
def dBi (p : List Cell → List D → Po) (g : DA) : DE := fun s => bindAR (g s) fun ds s1 => poK s1 (p s1.ce ds)
def dLst (g : DA) : DE := fun s => bindAR (g s) fun ds s1 => if ds.length ≤ 100000 then .nl ds s1 else .no
def dTup (g : DA) : DE := fun s => bindAR (g s) fun ds s1 => if ds.length ≤ 100000 then .ok (.tup ds) s1 else .no
def bindRB : R → (D → S → RB) → RB
  | .ok d s, k => k d s
  | .er x s, _ => .er x s
  | _, _ => .no
def bindB : RB → (Bool → S → RB) → RB
  | .ok d s, k => k d s
  | .er x s, _ => .er x s
  | _, _ => .no
def bindBR : RB → (Bool → S → R) → R
  | .ok d s, k => k d s
  | .er x s, _ => .er x s
  | _, _ => .no
def blK (s : S) : D → RB
  | .bl b => .ok b s
  | _ => .no
def bTest (f : DE) : DB := fun s => bindRB (f s) fun d s1 => blK s1 d
/-- a value's truth -/
def truD (ce : List Cell) : D → Option Bool
  | .non => some false
  | .bl b => some b
  | .int i => some (i != 0)
  | .str y => if y.length ≤ 100000 then some ((y.length : Int) != 0) else none
  | .lst xs => some (!xs.isEmpty)
  | .tup xs => some (!xs.isEmpty)
  | .rf j => match cellL ce[j]? with
    | some xs => some (!xs.isEmpty)
    | none => none
  | _ => none
def truK (s : S) : Option Bool → RB
  | some b => .ok b s
  | none => .no
def bTru (f : DE) : DB := fun s => bindRB (f s) fun d s1 => truK s1 (truD s1.ce d)
def bAnd (f g : DB) : DB := fun s => bindB (f s) fun b s1 => if b = true then g s1 else .ok false s1
def bOr (f g : DB) : DB := fun s => bindB (f s) fun b s1 => if b = true then .ok true s1 else g s1
def bNot (f : DB) : DB := fun s => bindB (f s) fun b s1 => .ok (!b) s1
def dIf (c : DB) (f g : DE) : DE := fun s => bindBR (c s) fun b s1 => if b = true then f s1 else g s1
def blD (s : S) (k : Bool → R) : D → R
  | .bl b => k b
  | _ => .no
def dAnd (f g : DE) : DE := fun s => bindR (f s) fun d s1 => blD s1 (fun b => if b = true then g s1 else .ok (.bl false) s1) d
def dOr (f g : DE) : DE := fun s => bindR (f s) fun d s1 => blD s1 (fun b => if b = true then .ok (.bl true) s1 else g s1) d
def dNot (f : DE) : DE := fun s => bindR (f s) fun d s1 => blD s1 (fun b => .ok (.bl (!b)) s1) d

section
variable {X : Cx} {cl : Cl} {e : Ent} {W : WX}
abbrev PEd (X : Cx) (cl : Cl) (e : Ent) (W : WX) (x : Expr) (f : DE) : Prop := PE X x (rd X.K cl e W f)
abbrev PAd (X : Cx) (cl : Cl) (e : Ent) (W : WX) (x : List Expr) (f : DA) : Prop := PA X x (rdA X.K cl e W f)
abbrev PTd (X : Cx) (cl : Cl) (e : Ent) (W : WX) (x : Expr) (f : DB) : Prop := PT X x (rdB X.K cl e W f)
abbrev PWd (X : Cx) (cl : Cl) (e : Ent) (W : WX) (x : Expr) (f : DB) : Prop := PW X x (rdB X.K cl e W f)
abbrev PSd (X : Cx) (cl : Cl) (e : Ent) (W : WX) (x : Stmt) (f : DS) : Prop := PS X x (rdS X.K cl e W f)
abbrev PSsd (X : Cx) (cl : Cl) (e : Ent) (W : WX) (x : List Stmt) (f : DS) : Prop := PSs X x (rdS X.K cl e W f)
abbrev Bx (X : Cx) (cl : Cl) (e : Ent) := B X.K cl e
abbrev Ix (X : Cx) (cl : Cl) := Is X.K cl

/-- an evaluation, then what comes of its value -/
theorem use_rd {f : DE} {F H : Hp} {ca : List Addr} {σ : L2.St} {s : S} {Q Z : VK} {k : D → S → R} (b : Bx X cl e F H ca σ s) (h : rdK X.K cl e W σ F ca Q (bindR (f s) k))
    (go : ∀ v d s1 F1 H1 ca1, Bx X cl e F1 H1 ca1 σ s1 → Is X.K cl F1 ca1 v d → Ex F F1 → Pre ca ca1 → rdK X.K cl e W σ F1 ca1 Q (k d s1) → Z v H1) : rd X.K cl e W f σ H Z := by
  refine ⟨F, ca, s, b, ?_⟩
  cases q : f s with
  | ok d s1 =>
    rw [q] at h
    exact fun v F1 H1 ca1 b1 x p i => go v d s1 F1 H1 ca1 b1 i x p (h.back x p)
  | er x s1 =>
    rw [q] at h
    exact h
  | _ =>
    rw [q] at h
    exact False.elim h
theorem use_rdA {f : DA} {F H : Hp} {ca : List Addr} {σ : L2.St} {s : S} {Q : VK} {Z : List V → Hp → Prop} {k : List D → S → R} (b : Bx X cl e F H ca σ s) (h : rdK X.K cl e W σ F ca Q (bindAR (f s) k))
    (go : ∀ vs ds s1 F1 H1 ca1, Bx X cl e F1 H1 ca1 σ s1 → IsL X.K cl F1 ca1 vs ds → Ex F F1 → Pre ca ca1 → rdK X.K cl e W σ F1 ca1 Q (k ds s1) → Z vs H1) : rdA X.K cl e W f σ H Z := by
  refine ⟨F, ca, s, b, ?_⟩
  cases q : f s with
  | ok d s1 =>
    rw [q] at h
    exact fun v F1 H1 ca1 b1 x p i => go v d s1 F1 H1 ca1 b1 i x p (h.back x p)
  | er x s1 =>
    rw [q] at h
    exact h
  | no =>
    rw [q] at h
    exact False.elim h
theorem use_rdB {f : DB} {F H : Hp} {ca : List Addr} {σ : L2.St} {s : S} {Q : VK} {Z : Bool → Hp → Prop} {k : Bool → S → R} (b : Bx X cl e F H ca σ s) (h : rdK X.K cl e W σ F ca Q (bindBR (f s) k))
    (go : ∀ d s1 F1 H1 ca1, Bx X cl e F1 H1 ca1 σ s1 → Ex F F1 → Pre ca ca1 → rdK X.K cl e W σ F1 ca1 Q (k d s1) → Z d H1) : rdB X.K cl e W f σ H Z := by
  refine ⟨F, ca, s, b, ?_⟩
  cases q : f s with
  | ok d s1 =>
    rw [q] at h
    exact fun F1 H1 ca1 b1 x p => go d s1 F1 H1 ca1 b1 x p (h.back x p)
  | er x s1 =>
    rw [q] at h
    exact h
  | no =>
    rw [q] at h
    exact False.elim h
/-- .. for tests -/
theorem useB_rd {f : DE} {F H : Hp} {ca : List Addr} {σ : L2.St} {s : S} {Q : Bool → Hp → Prop} {Z : VK} {k : D → S → RB} (b : Bx X cl e F H ca σ s) (h : rdBK X.K cl e W σ F ca Q (bindRB (f s) k))
    (go : ∀ v d s1 F1 H1 ca1, Bx X cl e F1 H1 ca1 σ s1 → Is X.K cl F1 ca1 v d → Ex F F1 → Pre ca ca1 → rdBK X.K cl e W σ F1 ca1 Q (k d s1) → Z v H1) : rd X.K cl e W f σ H Z := by
  refine ⟨F, ca, s, b, ?_⟩
  cases q : f s with
  | ok d s1 =>
    rw [q] at h
    exact fun v F1 H1 ca1 b1 x p i => go v d s1 F1 H1 ca1 b1 i x p (h.back x p)
  | er x s1 =>
    rw [q] at h
    exact h
  | _ =>
    rw [q] at h
    exact False.elim h
theorem useB_rdB {f : DB} {F H : Hp} {ca : List Addr} {σ : L2.St} {s : S} {Q Z : Bool → Hp → Prop} {k : Bool → S → RB} (b : Bx X cl e F H ca σ s) (h : rdBK X.K cl e W σ F ca Q (bindB (f s) k))
    (go : ∀ d s1 F1 H1 ca1, Bx X cl e F1 H1 ca1 σ s1 → Ex F F1 → Pre ca ca1 → rdBK X.K cl e W σ F1 ca1 Q (k d s1) → Z d H1) : rdB X.K cl e W f σ H Z := by
  refine ⟨F, ca, s, b, ?_⟩
  cases q : f s with
  | ok d s1 =>
    rw [q] at h
    exact fun F1 H1 ca1 b1 x p => go d s1 F1 H1 ca1 b1 x p (h.back x p)
  | er x s1 =>
    rw [q] at h
    exact h
  | no =>
    rw [q] at h
    exact False.elim h
/-- .. for argument lists -/
theorem useA_rd {f : DE} {F H : Hp} {ca : List Addr} {σ : L2.St} {s : S} {Q : List V → Hp → Prop} {Z : VK} {k : D → S → RA} (b : Bx X cl e F H ca σ s) (h : rdAK X.K cl e W σ F ca Q (bindRA (f s) k))
    (go : ∀ v d s1 F1 H1 ca1, Bx X cl e F1 H1 ca1 σ s1 → Is X.K cl F1 ca1 v d → Ex F F1 → Pre ca ca1 → rdAK X.K cl e W σ F1 ca1 Q (k d s1) → Z v H1) : rd X.K cl e W f σ H Z := by
  refine ⟨F, ca, s, b, ?_⟩
  cases q : f s with
  | ok d s1 =>
    rw [q] at h
    exact fun v F1 H1 ca1 b1 x p i => go v d s1 F1 H1 ca1 b1 i x p (h.back x p)
  | er x s1 =>
    rw [q] at h
    exact h
  | _ =>
    rw [q] at h
    exact False.elim h
theorem useA_rdA {f : DA} {F H : Hp} {ca : List Addr} {σ : L2.St} {s : S} {Q Z : List V → Hp → Prop} {k : List D → S → RA} (b : Bx X cl e F H ca σ s) (h : rdAK X.K cl e W σ F ca Q (bindA (f s) k))
    (go : ∀ vs ds s1 F1 H1 ca1, Bx X cl e F1 H1 ca1 σ s1 → IsL X.K cl F1 ca1 vs ds → Ex F F1 → Pre ca ca1 → rdAK X.K cl e W σ F1 ca1 Q (k ds s1) → Z vs H1) : rdA X.K cl e W f σ H Z := by
  refine ⟨F, ca, s, b, ?_⟩
  cases q : f s with
  | ok d s1 =>
    rw [q] at h
    exact fun v F1 H1 ca1 b1 x p i => go v d s1 F1 H1 ca1 b1 i x p (h.back x p)
  | er x s1 =>
    rw [q] at h
    exact h
  | no =>
    rw [q] at h
    exact False.elim h

/-! ### names, constants -/
variable {x a b c : Expr} {f g h : DE}
theorem d_var {i : Nat} (hv : PE X x (tVar i)) : PEd X cl e W x (dVar i) := pe_w hv fun σ H Q ⟨F, ca, s, b, q⟩ => by
  unfold dVar at q
  cases z : s.sl[i]? with
  | none =>
    rw [z] at q
    exact False.elim q
  | some o =>
    rw [z] at q
    cases o with
    | none => exact False.elim q
    | some d =>
      obtain ⟨v, h1, h2⟩ := b.slo i d z
      exact ⟨v, h1, q v F H ca b (Ex.refl F) (Pre.refl ca) h2⟩
theorem d_c {v : V} {d : D} (hv : PE X x (tC v)) (hd : ∀ F ca, Is X.K cl F ca v d) : PEd X cl e W x (dC d) := pe_w hv fun σ H Q ⟨F, ca, s, b, q⟩ => q v F H ca b (Ex.refl F) (Pre.refl ca) (hd F ca)
theorem d_int {i : Int} {j pos} : PEd X cl e W (.Constant (.int i) j pos) (dC (.int i)) := d_c pe_int fun _ _ => .int i
theorem d_bl {i : Bool} {j pos} : PEd X cl e W (.Constant (.bool i) j pos) (dC (.bl i)) := d_c pe_bl fun _ _ => .bl i
theorem d_non {j pos} : PEd X cl e W (.Constant .none j pos) (dC .non) := d_c pe_non fun _ _ => .non
theorem d_str {i : Str} {j pos} : PEd X cl e W (.Constant (.str i) j pos) (dC (.str i)) := d_c pe_str fun _ _ => .str i
theorem set_same {σ : L2.St} {i : Nat} {v : V} (h : σ[i]? = some (some v)) : σ.set i (some v) = σ := by
  refine List.ext_getElem? fun k => ?_
  by_cases w : k = i
  · subst w
    rw [List.getElem?_set_self (List.getElem?_eq_some_iff.mp h).1]
    exact h.symm
  · rw [List.getElem?_set_ne (Ne.symm w)]
theorem d_share {i : Nat} (hv : PE X x (tVar i)) : PEd X cl e W x (dShare i) := pe_w hv fun σ H Q ⟨F, ca, s, b, q⟩ => by
  unfold dShare at q
  cases z : s.sl[i]? with
  | none =>
    rw [z] at q
    exact False.elim q
  | some o =>
    rw [z] at q
    cases o with
    | none => exact False.elim q
    | some d =>
      obtain ⟨v, h1, h2⟩ := b.slo i d z
      refine ⟨v, h1, ?_⟩
      have plain : (∀ j, d ≠ .rf j) → Q v H := fun hn => by
        have q' : rdK X.K cl e W σ F ca Q (shareK i s d) := q
        cases d with
        | rf j => exact absurd rfl (hn j)
        | _ => exact q' v F H ca b (Ex.refl F) (Pre.refl ca) h2
      cases d with
      | rf j =>
        have q' : rdK X.K cl e W σ F ca Q (if s.n0 ≤ j then shareC i j s s.ce[j]? else .no) := q
        by_cases hj : s.n0 ≤ j
        · rw [if_pos hj] at q'
          cases h2 with
          | rf ha =>
            obtain ⟨c, e1, e2⟩ := b.cel.at_ ha
            rw [e1] at q'
            cases c with
            | lst xs =>
              obtain ⟨hF, vs, hH, hi⟩ := e2
              have b1 := b.freeze ha (b.own ha hj) hF hH
              have i1 : Is X.K cl (upd F _ (.lst vs)) ca (.ref _) (.lst xs) := .lst upd_same (hi.mono (Ex.new hF) (Pre.refl ca))
              have b2 := b1.put (i := i) i1
              refine q' _ _ H ca ?_ (Ex.new hF) (Pre.refl ca) i1
              rw [set_same h1] at b2
              exact b2
            | ins c fs =>
              obtain ⟨hF, dx, vs, hH, hi⟩ := e2
              have b1 := b.freeze ha (b.own ha hj) hF hH
              have i1 : Is X.K cl (upd F _ (.ins (cl c) dx vs)) ca (.ref _) (.obj c fs) := .obj upd_same (hi.mono (Ex.new hF) (Pre.refl ca))
              have b2 := b1.put (i := i) i1
              refine q' _ _ H ca ?_ (Ex.new hF) (Pre.refl ca) i1
              rw [set_same h1] at b2
              exact b2
            | _ => exact False.elim q'
        · rw [if_neg hj] at q'
          exact False.elim q'
      | _ => exact plain fun j z => by cases z

/-! ### new things -/
theorem NL.fix {F H : Hp} {ca : List Addr} {σ : L2.St} {s : S} {v : V} {xs : List D} (b : Bx X cl e F H ca σ s) (n : NL X.K cl e F H ca v xs) : ∃ F', Ex F F' ∧ Bx X cl e F' H ca σ s ∧ Is X.K cl F' ca v (.lst xs) := by
  obtain ⟨p, vs, rfl, hp, hi, hF, hc, h0⟩ := n
  exact ⟨_, Ex.new hF, b.fix hp hF hc h0, .lst upd_same (hi.mono (Ex.new hF) (Pre.refl ca))⟩
theorem NI.fix {F H : Hp} {ca : List Addr} {σ : L2.St} {s : S} {v : V} {c : Nat} {fs : List (Str × D)} (b : Bx X cl e F H ca σ s) (n : NI X.K cl e F H ca v c fs) : ∃ F', Ex F F' ∧ Bx X cl e F' H ca σ s ∧ Is X.K cl F' ca v (.obj c fs) := by
  obtain ⟨p, dx, vs, rfl, hp, hi, hF, hc, h0⟩ := n
  exact ⟨_, Ex.new hF, b.fix hp hF hc h0, .obj upd_same (hi.mono (Ex.new hF) (Pre.refl ca))⟩
theorem rd_fz {σ : L2.St} {H : Hp} {Q : VK} (h : rd X.K cl e W (dFz f) σ H Q) : rd X.K cl e W f σ H Q := by
  obtain ⟨F, ca, s, b, q⟩ := h
  refine ⟨F, ca, s, b, ?_⟩
  unfold dFz at q
  cases z : f s with
  | nl xs s1 =>
    rw [z] at q
    exact fun v F1 H1 ca1 b1 x1 p1 n => by
      obtain ⟨F2, x2, b2, i2⟩ := n.fix b1
      exact q v F2 H1 ca1 b2 (x1.trans x2) p1 i2
  | ni c fs s1 =>
    rw [z] at q
    exact fun v F1 H1 ca1 b1 x1 p1 n => by
      obtain ⟨F2, x2, b2, i2⟩ := n.fix b1
      exact q v F2 H1 ca1 b2 (x1.trans x2) p1 i2
  | ok d s1 =>
    rw [z] at q
    exact q
  | er d s1 =>
    rw [z] at q
    exact q
  | no =>
    rw [z] at q
    exact q
theorem d_fz (hf : PEd X cl e W x f) : PEd X cl e W x (dFz f) := pe_w hf fun _ _ _ q => rd_fz q
theorem pre_last {ca : List Addr} {n : Nat} {p : Addr} (h : ca.length = n) : (ca ++ [p])[n]? = some p := by
  subst h
  simp
theorem rd_ce {σ : L2.St} {H : Hp} {Q : VK} (h : rd X.K cl e W (dCe f) σ H Q) : rd X.K cl e W f σ H Q := by
  obtain ⟨F, ca, s, b, q⟩ := h
  refine ⟨F, ca, s, b, ?_⟩
  unfold dCe at q
  cases z : f s with
  | nl xs s1 =>
    rw [z] at q
    exact fun v F1 H1 ca1 b1 x1 p1 n => by
      obtain ⟨p, vs, rfl, hp, hi, hF, hc, h0⟩ := n
      exact q _ F1 H1 (ca1 ++ [p]) (b1.cell (c := .lst xs) ⟨hF, vs, hp, hi⟩ hc h0) x1 (p1.trans (Pre.app _ _)) (.rf (pre_last b1.cel.1))
  | ni c fs s1 =>
    rw [z] at q
    exact fun v F1 H1 ca1 b1 x1 p1 n => by
      obtain ⟨p, dx, vs, rfl, hp, hi, hF, hc, h0⟩ := n
      exact q _ F1 H1 (ca1 ++ [p]) (b1.cell (c := .ins c fs) ⟨hF, dx, vs, hp, hi⟩ hc h0) x1 (p1.trans (Pre.app _ _)) (.rf (pre_last b1.cel.1))
  | ok d s1 =>
    rw [z] at q
    exact q
  | er d s1 =>
    rw [z] at q
    exact q
  | no =>
    rw [z] at q
    exact q
theorem d_ce (hf : PEd X cl e W x f) : PEd X cl e W x (dCe f) := pe_w hf fun _ _ _ q => rd_ce q

/-! ### what values give -/
def PoK (X : Cx) (cl : Cl) (e : Ent) (F H : Hp) (ca : List Addr) (σ : L2.St) (s : S) (k : VK → Prop) : Po → Prop
  | .v d => ∀ Q : VK, (∀ v H', Bx X cl e F H' ca σ s → Is X.K cl F ca v d → Q v H') → k Q
  | .l xs => ∀ Q : VK, (∀ p vs, H p = none → IsL X.K cl F ca vs xs → Q (.ref p) (upd H p (.lst vs))) → k Q
  | .no => True
theorem PoK.go {F H : Hp} {ca : List Addr} {σ : L2.St} {s : S} {k : VK → Prop} {p : Po} {Q : VK} (b : Bx X cl e F H ca σ s) (h : PoK X cl e F H ca σ s k p) (q : rdK X.K cl e W σ F ca Q (poK s p)) : k Q := by
  cases p with
  | v d => exact h Q fun v H' b' i => q v F H' ca b' (Ex.refl F) (Pre.refl ca) i
  | l xs => exact h Q fun p vs hp hi => q (.ref p) F _ ca (b.laid hp) (Ex.refl F) (Pre.refl ca) ⟨p, vs, rfl, upd_same, hi, b.notF hp, b.notca hp, b.notH0 hp⟩
  | no => exact False.elim q
/-- an operator's rule r by values, as p says of data -/
def OpD (X : Cx) (cl : Cl) (e : Ent) (r : R2) (p : List Cell → D → D → Po) : Prop :=
  ∀ (F H : Hp) (ca : List Addr) (σ : L2.St) (s : S) (v1 v2 : V) (d1 d2 : D), Bx X cl e F H ca σ s → Is X.K cl F ca v1 d1 → Is X.K cl F ca v2 d2 → PoK X cl e F H ca σ s (fun Q => r v1 v2 H Q) (p s.ce d1 d2)
def UnD (X : Cx) (cl : Cl) (e : Ent) (r : V → Hp → VK → Prop) (p : List Cell → D → Po) : Prop :=
  ∀ (F H : Hp) (ca : List Addr) (σ : L2.St) (s : S) (v1 : V) (d1 : D), Bx X cl e F H ca σ s → Is X.K cl F ca v1 d1 → PoK X cl e F H ca σ s (fun Q => r v1 H Q) (p s.ce d1)
def BiD (X : Cx) (cl : Cl) (e : Ent) (r : List V → Hp → VK → Prop) (p : List Cell → List D → Po) : Prop :=
  ∀ (F H : Hp) (ca : List Addr) (σ : L2.St) (s : S) (vs : List V) (ds : List D), Bx X cl e F H ca σ s → IsL X.K cl F ca vs ds → PoK X cl e F H ca σ s (fun Q => r vs H Q) (p s.ce ds)
theorem rd_op {r : R2} {p : List Cell → D → D → Po} (ho : OpD X cl e r p) {σ : L2.St} {H : Hp} {Q : VK} (q : rd X.K cl e W (dOp p f g) σ H Q) : tOp r (rd X.K cl e W f) (rd X.K cl e W g) σ H Q := by
  obtain ⟨F, ca, s, b, q⟩ := q
  refine use_rd b q fun v1 d1 s1 F1 H1 ca1 b1 i1 x1 p1 q1 => ?_
  refine use_rd b1 q1 fun v2 d2 s2 F2 H2 ca2 b2 i2 x2 p2 q2 => ?_
  exact (ho F2 H2 ca2 σ s2 v1 v2 d1 d2 b2 (i1.mono x2 p2) i2).go b2 q2
theorem d_op {op : Operator} {r : R2} {p : List Cell → D → D → Po} {pos : Pos} (ho : OpR X (binaryOp op) r) (hd : OpD X cl e r p) (ha : PEd X cl e W a f) (hb : PEd X cl e W b g) : PEd X cl e W (.BinOp a op b pos) (dOp p f g) :=
  pe_w (pe_op ho ha hb) fun _ _ _ q => rd_op hd q
theorem d_cmp {op : CmpOp} {r : R2} {p : List Cell → D → D → Po} {pos : Pos} (ho : OpR X (compareOp op) r) (hd : OpD X cl e r p) (ha : PEd X cl e W a f) (hb : PEd X cl e W b g) (hm : behindInMarks op b = false) : PEd X cl e W (.Compare a [op] [b] pos) (dOp p f g) :=
  pe_w (pe_cmpR ho ha hb hm) fun _ _ _ q => rd_op hd q
theorem rd_un {r : V → Hp → VK → Prop} {p : List Cell → D → Po} (ho : UnD X cl e r p) {σ : L2.St} {H : Hp} {Q : VK} (q : rd X.K cl e W (dUn p f) σ H Q) : tUn r (rd X.K cl e W f) σ H Q := by
  obtain ⟨F, ca, s, b, q⟩ := q
  refine use_rd b q fun v1 d1 s1 F1 H1 ca1 b1 i1 x1 p1 q1 => ?_
  exact (ho F1 H1 ca1 σ s1 v1 d1 b1 i1).go b1 q1
theorem d_un {op : UnaryOp} {r : V → Hp → VK → Prop} {p : List Cell → D → Po} {pos : Pos} (ho : UnR X (unaryOp op) r) (hd : UnD X cl e r p) (ha : PEd X cl e W a f) : PEd X cl e W (.UnaryOp op a pos) (dUn p f) :=
  pe_w (pe_un ho ha) fun _ _ _ q => rd_un hd q
end
end Dv

set_option maxRecDepth 100000
set_option maxHeartbeats 4000000
namespace Dv
open PySem PySem.Spec PyProof.Rows L2

/-! ### operators by data -/
mutual
def toP : D → Option PyData
  | .non => some .none
  | .bl b => some (.bool b)
  | .int i => some (.int i)
  | .str s => some (.str s)
  | .lst xs => (toPs xs).map .list
  | .ro xs => (toPs xs).map .list
  | .tup xs => (toPs xs).map .tuple
  | .obj _ _ => none
  | .rf _ => none
  | .xc _ _ => none
def toPs : List D → Option (List PyData)
  | [] => some []
  | d :: ds => match toP d, toPs ds with
    | some p, some ps => some (p :: ps)
    | _, _ => none
end
def toPc (ce : List Cell) : D → Option PyData
  | .rf j => match cellL ce[j]? with
    | some xs => (toPs xs).map .list
    | none => none
  | d => toP d
section
variable {K : PySem.W.Frag} {cl : Cl} {F H : Hp} {ca : List Addr}
mutual
theorem toP_ok (x : Ex F H) : ∀ {v : V} {d : D} {p : PyData}, Is K cl F ca v d → toP d = some p → Dp K H v p
  | _, .non, _, .non, q => by
    cases q
    exact .non
  | _, .bl _, _, .bl b, q => by
    cases q
    exact .bl b
  | _, .int _, _, .int b, q => by
    cases q
    exact .int b
  | _, .str _, _, .str b, q => by
    cases q
    exact .str b
  | _, .lst xs, _, .lst h l, q => by
    have q' : (toPs xs).map PyData.list = some _ := q
    cases e : toPs xs with
    | none =>
      rw [e] at q'
      cases q'
    | some ps =>
      rw [e] at q'
      cases q'
      exact .lst (SqL.of (x _ _ h)) (toPs_ok x l e)
  | _, .ro xs, _, .ro h l, q => by
    have q' : (toPs xs).map PyData.list = some _ := q
    cases e : toPs xs with
    | none =>
      rw [e] at q'
      cases q'
    | some ps =>
      rw [e] at q'
      cases q'
      exact .lst (ex_l x h) (toPs_ok x l e)
  | _, .tup xs, _, .tup h l, q => by
    have q' : (toPs xs).map PyData.tuple = some _ := q
    cases e : toPs xs with
    | none =>
      rw [e] at q'
      cases q'
    | some ps =>
      rw [e] at q'
      cases q'
      exact .tup (ex_t x h) (toPs_ok x l e)
theorem toPs_ok (x : Ex F H) : ∀ {v : List V} {d : List D} {p : List PyData}, IsL K cl F ca v d → toPs d = some p → DpAll K H v p
  | _, [], _, .nil, q => by
    cases q
    exact .nil
  | _, d :: ds, _, .cons h l, q => by
    have q' : (match toP d, toPs ds with
      | some p, some ps => some (p :: ps)
      | _, _ => none) = some _ := q
    cases e1 : toP d with
    | none =>
      rw [e1] at q'
      cases q'
    | some p =>
      rw [e1] at q'
      cases e2 : toPs ds with
      | none =>
        rw [e2] at q'
        cases q'
      | some ps =>
        rw [e2] at q'
        cases q'
        exact .cons (toP_ok x h e1) (toPs_ok x l e2)
end
end
section
variable {K : PySem.W.Frag} {cl : Cl} {e : Ent} {F H : Hp} {ca : List Addr} {σ : L2.St} {s : S}
theorem toPc_ok {v : V} {d : D} {p : PyData} (b : B K cl e F H ca σ s) (h : Is K cl F ca v d) (q : toPc s.ce d = some p) : Dp K H v p := by
  by_cases z : ∃ j, d = .rf j
  · obtain ⟨j, rfl⟩ := z
    have q' : (match cellL s.ce[j]? with
      | some xs => (toPs xs).map PyData.list
      | none => none) = some p := q
    cases e1 : cellL s.ce[j]? with
    | none =>
      rw [e1] at q'
      cases q'
    | some xs =>
      rw [e1] at q'
      have q2 : (toPs xs).map PyData.list = some p := q'
      obtain ⟨a, vs, rfl, hl, hi⟩ := look_ok b h (xs := xs) e1
      cases e2 : toPs xs with
      | none =>
        rw [e2] at q2
        cases q2
      | some ps =>
        rw [e2] at q2
        cases q2
        exact .lst hl (toPs_ok b.fh hi e2)
  · refine toP_ok b.fh h ?_
    cases d with
    | rf j => exact absurd ⟨j, rfl⟩ z
    | _ => exact q
end

def addL (a b : Option (List D)) : Po := match a, b with
  | some xs, some ys => if xs.length + ys.length ≤ 100000 then .l (xs ++ ys) else .no
  | _, _ => .no
def pAdd (ce : List Cell) : D → D → Po
  | .int i, .int j => .v (.int (i + j))
  | .str x, .str y => if x.length + y.length ≤ 1000000 then .v (.str (x ++ y)) else .no
  | a, b => addL (lookT ce a) (lookT ce b)
def pSub (_ : List Cell) : D → D → Po
  | .int i, .int j => .v (.int (i - j))
  | _, _ => .no
/-- bits -/
def bits (i : Int) : Nat := i.natAbs.log2
def pMul (_ : List Cell) : D → D → Po
  | .int i, .int j => if bits i + bits j < 900000 then .v (.int (i * j)) else .no
  | _, _ => .no
def repL (a : Option (List D)) (k : Int) : Po := match a with
  | some xs => if k ≤ 100000 ∧ xs.length * k.toNat ≤ 100000 ∧ -100000 ≤ k then .l (List.replicate k.toNat xs).flatten else .no
  | none => .no
def pRep (ce : List Cell) : D → D → Po
  | a, .int k => repL (lookT ce a) k
  | _, _ => .no
def pDiv (_ : List Cell) : D → D → Po
  | .int i, .int j => if 0 < j ∧ bits j < 9000 then .v (.int (i / j)) else .no
  | _, _ => .no
def pMod (_ : List Cell) : D → D → Po
  | .int i, .int j => if 0 < j then .v (.int (i % j)) else .no
  | _, _ => .no
def pPow (_ : List Cell) : D → D → Po
  | .int i, .int j => if 0 ≤ j ∧ ((bits i : Int) + 1) * j ≤ 134217728 then .v (.int (i ^ j.toNat)) else .no
  | _, _ => .no
def pCmp (p : Int → Int → Bool) (_ : List Cell) : D → D → Po
  | .int i, .int j => .v (.bl (p i j))
  | _, _ => .no
def eqP (a b : Option PyData) (neg : Bool) : Po := match a, b with
  | some p, some q => if SeqAt.shaped p = true ∧ SeqAt.shaped q = true then .v (.bl (if neg then !PyData.eqv p q else PyData.eqv p q)) else .no
  | _, _ => .no
def pEq (ce : List Cell) (a b : D) : Po := eqP (toPc ce a) (toPc ce b) false
def pNe (ce : List Cell) (a b : D) : Po := eqP (toPc ce a) (toPc ce b) true
def pNeg (_ : List Cell) : D → Po
  | .int i => .v (.int (-i))
  | _ => .no
def pIs (neg : Bool) (_ : List Cell) : D → D → Po
  | .non, .non => .v (.bl (!neg))
  | .rf _, _ => .no
  | _, .non => .v (.bl neg)
  | _, _ => .no

section
variable {X : Cx} {cl : Cl} {e : Ent}
theorem PoK.val {F H : Hp} {ca : List Addr} {σ : L2.St} {s : S} {k : VK → Prop} {d : D} {v : V} (b : Bx X cl e F H ca σ s) (hi : Is X.K cl F ca v d) (h : ∀ Q : VK, Q v H → k Q) : PoK X cl e F H ca σ s k (.v d) :=
  fun Q q => h Q (q v H b hi)
theorem PoK.ite {F H : Hp} {ca : List Addr} {σ : L2.St} {s : S} {k : VK → Prop} {c : Prop} [Decidable c] {p : Po} (h : c → PoK X cl e F H ca σ s k p) : PoK X cl e F H ca σ s k (if c then p else .no) := by
  by_cases z : c
  · rw [if_pos z]
    exact h z
  · rw [if_neg z]
    trivial
theorem opd_no {r : R2} : OpD X cl e r (fun _ _ _ => .no) := fun _ _ _ _ _ _ _ _ _ _ _ _ => trivial

def rStrAdd : R2 := fun x y H Q => ∃ i j, x = .str i ∧ y = .str j ∧ i.length + j.length ≤ sizeLine ∧ Q (.str (i ++ j)) H
def rAddAll : R2 := fun x y H Q => ((rI0 fun i j => V.int (i + j)) x y H Q ∨ rStrAdd x y H Q) ∨ rCat x y H Q
theorem op_addAll : OpR X (binaryOp .Add) rAddAll := OpR.or (OpR.or op_add op_add_str) op_cat
theorem sz {n : Nat} (h : n ≤ 1000000) : n ≤ sizeLine := Nat.le_trans h (by decide)
theorem addL_ok {F H : Hp} {ca : List Addr} {σ : L2.St} {s : S} {v1 v2 : V} {d1 d2 : D} (b : Bx X cl e F H ca σ s) (h1 : Is X.K cl F ca v1 d1) (h2 : Is X.K cl F ca v2 d2) :
    PoK X cl e F H ca σ s (fun Q => rAddAll v1 v2 H Q) (addL (lookT s.ce d1) (lookT s.ce d2)) := by
  cases e1 : lookT s.ce d1 with
  | none => trivial
  | some xs =>
    cases e2 : lookT s.ce d2 with
    | none => trivial
    | some ys =>
      refine PoK.ite fun hz => ?_
      obtain ⟨a1, vs1, rfl, hl1, hi1⟩ := lookT_ok b h1 e1
      obtain ⟨a2, vs2, rfl, hl2, hi2⟩ := lookT_ok b h2 e2
      exact fun Q q => .inr ⟨a1, a2, vs1, vs2, rfl, rfl, hl1, hl2, sz (by rw [hi1.length, hi2.length]; omega), fun p hp => q p _ hp (hi1.app hi2)⟩
theorem od_add : OpD X cl e rAddAll pAdd := fun F H ca σ s v1 v2 d1 d2 b h1 h2 => by
  have gen := addL_ok b h1 h2
  cases h1 with
  | int i =>
    cases h2 with
    | int j => exact .val b (.int _) fun Q q => .inl (.inl ⟨i, j, rfl, rfl, q⟩)
    | _ => exact gen
  | str x =>
    cases h2 with
    | str y => exact .ite fun hz => .val b (.str _) fun Q q => .inl (.inr ⟨x, y, rfl, rfl, sz hz, q⟩)
    | _ => exact gen
  | _ => exact gen
theorem od_sub : OpD X cl e (rI0 fun i j => .int (i - j)) pSub := fun F H ca σ s v1 v2 d1 d2 b h1 h2 => by
  cases h1 with
  | int i =>
    cases h2 with
    | int j => exact .val b (.int _) fun Q q => ⟨i, j, rfl, rfl, q⟩
    | _ => trivial
  | _ => cases h2 <;> trivial
theorem od_mul : OpD X cl e (rI CMulW fun i j => .int (i * j)) pMul := fun F H ca σ s v1 v2 d1 d2 b h1 h2 => by
  cases h1 with
  | int i =>
    cases h2 with
    | int j => exact .ite fun hz => .val b (.int _) fun Q q => ⟨i, j, rfl, rfl, (by unfold CMulW; unfold bits at hz; omega), q⟩
    | _ => trivial
  | _ => cases h2 <;> trivial
theorem od_rep : OpD X cl e rRep pRep := fun F H ca σ s v1 v2 d1 d2 b h1 h2 => by
  cases h2 with
  | int k =>
    show PoK X cl e F H ca σ s _ (repL (lookT s.ce d1) k)
    cases e1 : lookT s.ce d1 with
    | none => trivial
    | some xs =>
      refine PoK.ite fun hz => ?_
      obtain ⟨a1, vs1, rfl, hl1, hi1⟩ := lookT_ok b h1 e1
      refine fun Q q => ⟨a1, k, vs1, rfl, rfl, hl1, by omega, by omega, sz (by rw [hi1.length]; omega), fun p hp => q p _ hp ?_⟩
      generalize k.toNat = n
      induction n with
      | zero => exact .nil
      | succ n ih =>
        rw [List.replicate_succ, List.replicate_succ, List.flatten_cons, List.flatten_cons]
        exact hi1.app ih
  | _ => cases h1 <;> trivial
theorem od_div : OpD X cl e (rI CDivW fun i j => .int (i / j)) pDiv := fun F H ca σ s v1 v2 d1 d2 b h1 h2 => by
  cases h1 with
  | int i =>
    cases h2 with
    | int j => exact .ite fun hz => .val b (.int _) fun Q q => ⟨i, j, rfl, rfl, ⟨hz.1, hz.2⟩, q⟩
    | _ => trivial
  | _ => cases h2 <;> trivial
theorem od_mod : OpD X cl e (rI (fun _ j => 0 < j) fun i j => .int (i % j)) pMod := fun F H ca σ s v1 v2 d1 d2 b h1 h2 => by
  cases h1 with
  | int i =>
    cases h2 with
    | int j => exact .ite fun hz => .val b (.int _) fun Q q => ⟨i, j, rfl, rfl, hz, q⟩
    | _ => trivial
  | _ => cases h2 <;> trivial
def CPowW (i j : Int) : Prop := 0 ≤ j ∧ (Builtin.Int.intBits i : Int) * j ≤ 2 ^ 27
theorem op_powW : OpR X (binaryOp .Pow) (rI CPowW fun i j => .int (i ^ j.toNat)) := opI fun _ _ _ _ _ _ _ hc q => pow_int hc.1 hc.2 q
theorem od_pow : OpD X cl e (rI CPowW fun i j => .int (i ^ j.toNat)) pPow := fun F H ca σ s v1 v2 d1 d2 b h1 h2 => by
  cases h1 with
  | int i =>
    cases h2 with
    | int j =>
      refine .ite fun hz => .val b (.int _) fun Q q => ⟨i, j, rfl, rfl, ⟨hz.1, ?_⟩, q⟩
      have h1 : Builtin.Int.intBits i ≤ bits i + 1 := by
        unfold Builtin.Int.intBits bits
        split <;> omega
      have h3 : (Builtin.Int.intBits i : Int) * j ≤ ((bits i : Int) + 1) * j := Int.mul_le_mul_of_nonneg_right (by omega) hz.1
      have h4 : (2 : Int) ^ 27 = 134217728 := by decide
      rw [h4]
      omega
    | _ => trivial
  | _ => cases h2 <;> trivial
theorem od_cmp (p : Int → Int → Bool) : OpD X cl e (rI0 fun i j => .bl (p i j)) (pCmp p) := fun F H ca σ s v1 v2 d1 d2 b h1 h2 => by
  cases h1 with
  | int i =>
    cases h2 with
    | int j => exact .val b (.bl _) fun Q q => ⟨i, j, rfl, rfl, q⟩
    | _ => trivial
  | _ => cases h2 <;> trivial
theorem od_eq : OpD X cl e (rEqD X.K) pEq := fun F H ca σ s v1 v2 d1 d2 b h1 h2 => by
  unfold pEq eqP
  cases e1 : toPc s.ce d1 with
  | none => trivial
  | some p =>
    cases e2 : toPc s.ce d2 with
    | none => trivial
    | some q => exact .ite fun hz => .val b (.bl _) fun Q k => ⟨p, q, toPc_ok b h1 e1, toPc_ok b h2 e2, hz.1, hz.2, k⟩
theorem od_ne : OpD X cl e (rNeD X.K) pNe := fun F H ca σ s v1 v2 d1 d2 b h1 h2 => by
  unfold pNe eqP
  cases e1 : toPc s.ce d1 with
  | none => trivial
  | some p =>
    cases e2 : toPc s.ce d2 with
    | none => trivial
    | some q => exact .ite fun hz => .val b (.bl _) fun Q k => ⟨p, q, toPc_ok b h1 e1, toPc_ok b h2 e2, hz.1, hz.2, k⟩
theorem ud_neg : UnD X cl e (rU fun i => .int (-i)) pNeg := fun F H ca σ s v1 d1 b h1 => by
  cases h1 with
  | int i => exact .val b (.int _) fun Q q => ⟨i, rfl, q⟩
  | _ => trivial
theorem od_is : OpD X cl e (fun x y H Q => y = .non ∧ Q (.bl (decide (x = .non))) H) (pIs false) := fun F H ca σ s v1 v2 d1 d2 b h1 h2 => by
  cases h2 with
  | non => cases h1 <;> first
    | exact .val b (.bl _) fun Q q => ⟨rfl, q⟩
    | trivial
  | _ => cases h1 <;> trivial
theorem od_isnot : OpD X cl e (fun x y H Q => y = .non ∧ Q (.bl (!decide (x = .non))) H) (pIs true) := fun F H ca σ s v1 v2 d1 d2 b h1 h2 => by
  cases h2 with
  | non => cases h1 <;> first
    | exact .val b (.bl _) fun Q q => ⟨rfl, q⟩
    | trivial
  | _ => cases h1 <;> trivial

/-! ### in -/
def flatD : D → Bool
  | .non => true
  | .bl _ => true
  | .int _ => true
  | .str _ => true
  | _ => false
def eqF : D → D → Bool
  | .non, .non => true
  | .bl a, .bl b => a == b
  | .bl a, .int b => (if a then 1 else 0) == b
  | .int a, .bl b => a == (if b then 1 else 0)
  | .int a, .int b => a == b
  | .str a, .str b => a == b
  | _, _ => false
theorem flat_ok {F : Hp} {ca : List Addr} {v : V} {d : D} (h : Is X.K cl F ca v d) (q : flatD d = true) : flatV v = true := by
  cases h <;> first
    | rfl
    | cases q
theorem eqF_ok {F : Hp} {ca : List Addr} {v w : V} {d f : D} (h : Is X.K cl F ca v d) (g : Is X.K cl F ca w f) (q : flatD d = true) (q2 : flatD f = true) : eqV v w = eqF d f := by
  cases h <;> cases g <;> first
    | rfl
    | cases q
    | cases q2
theorem flats_ok {F : Hp} {ca : List Addr} : ∀ {vs : List V} {ds : List D}, IsL X.K cl F ca vs ds → ds.all flatD = true → vs.all flatV = true
  | _, _, .nil, _ => rfl
  | _, _, .cons h t, q => by
    rw [List.all_cons, Bool.and_eq_true] at q
    rw [List.all_cons, flat_ok h q.1, flats_ok t q.2] <;> rfl
theorem anyF_ok {F : Hp} {ca : List Addr} {v : V} {d : D} (h : Is X.K cl F ca v d) (q : flatD d = true) : ∀ {vs : List V} {ds : List D}, IsL X.K cl F ca vs ds → ds.all flatD = true → inV v vs = ds.any (fun y => eqF y d)
  | _, _, .nil, _ => rfl
  | _, _, .cons g t, q2 => by
    rw [List.all_cons, Bool.and_eq_true] at q2
    have ih := anyF_ok h q t q2.2
    unfold inV at ih ⊢
    rw [List.any_cons, List.any_cons, eqF_ok g h q2.1 q, ih]
/-- the items of a list or a tuple -/
def lookU (ce : List Cell) : D → Option (List D)
  | .tup xs => some xs
  | d => look ce d
def inL (neg : Bool) (d : D) : Option (List D) → Po
  | some xs => if flatD d = true ∧ xs.all flatD = true then .v (.bl (if neg then !xs.any (fun y => eqF y d) else xs.any (fun y => eqF y d))) else .no
  | none => .no
def pIn (neg : Bool) (ce : List Cell) (a b : D) : Po := inL neg a (lookU ce b)
theorem lookU_ok {F H : Hp} {ca : List Addr} {σ : L2.St} {s : S} {v : V} {d : D} {xs : List D} (b : Bx X cl e F H ca σ s) (h : Is X.K cl F ca v d) (q : lookU s.ce d = some xs) : ∃ a vs, v = .ref a ∧ (SqL X.K H a vs ∨ SqT X.K H a vs) ∧ IsL X.K cl F ca vs xs := by
  cases h with
  | tup hl hi =>
    cases q
    exact ⟨_, _, rfl, .inr (ex_t b.fh hl), hi⟩
  | lst hl hi =>
    obtain ⟨a, vs, h1, h2, h3⟩ := look_ok b (.lst hl hi) q
    exact ⟨a, vs, h1, .inl h2, h3⟩
  | ro hl hi =>
    obtain ⟨a, vs, h1, h2, h3⟩ := look_ok b (.ro hl hi) q
    exact ⟨a, vs, h1, .inl h2, h3⟩
  | rf hl =>
    obtain ⟨a, vs, h1, h2, h3⟩ := look_ok b (.rf hl) q
    exact ⟨a, vs, h1, .inl h2, h3⟩
  | _ => cases q
theorem od_in (neg : Bool) : OpD X cl e (rIn X.K neg) (pIn neg) := fun F H ca σ s v1 v2 d1 d2 b h1 h2 => by
  unfold pIn
  cases e1 : lookU s.ce d2 with
  | none => trivial
  | some xs =>
    refine PoK.ite fun hz => ?_
    obtain ⟨a, vs, rfl, hl, hi⟩ := lookU_ok b h2 e1
    refine .val b (.bl _) fun Q q => ⟨a, vs, rfl, hl, flat_ok h1 hz.1, flats_ok hi hz.2, ?_⟩
    rw [anyF_ok h1 hz.1 hi hz.2]
    exact q
end
end Dv

set_option maxRecDepth 100000
set_option maxHeartbeats 4000000
namespace Dv
open PySem PySem.Spec PyProof.Rows L2
section
variable {X : Cx} {cl : Cl} {e : Ent} {W : WX} {x a b c : Expr} {f g h : DE} {es : List Expr} {ga gb : DA} {pos : Pos} {tb tc td : DB} {rest : List Expr}
/-! ### argument lists, displays, built-ins -/
theorem d_anil : PAd X cl e W [] aNil := pa_w pa_nil fun σ H Q ⟨F, ca, s, b, q⟩ => q [] F H ca b (Ex.refl F) (Pre.refl ca) .nil
theorem d_acons (ha : PEd X cl e W a f) (hr : PAd X cl e W es ga) (hst : starEach (a :: es) X.env = (false, eval a X.env) :: starEach es X.env := by rfl) : PAd X cl e W (a :: es) (aCons f ga) :=
  pa_w (pa_cons ha hr hst) fun σ H Q ⟨F, ca, s, b, q⟩ => by
    refine useA_rd b q fun v d s1 F1 H1 ca1 b1 i1 x1 p1 q1 => ?_
    refine useA_rdA b1 q1 fun vs ds s2 F2 H2 ca2 b2 i2 x2 p2 q2 => ?_
    exact q2 (v :: vs) F2 H2 ca2 b2 (Ex.refl F2) (Pre.refl ca2) (.cons (i1.mono x2 p2) i2)
theorem rd_bi {r : List V → Hp → VK → Prop} {p : List Cell → List D → Po} (hd : BiD X cl e r p) {σ : L2.St} {H : Hp} {Q : VK} (q : rd X.K cl e W (dBi p ga) σ H Q) : tCB r (rdA X.K cl e W ga) σ H Q := by
  obtain ⟨F, ca, s, b, q⟩ := q
  refine use_rdA b q fun vs ds s1 F1 H1 ca1 b1 i1 x1 p1 q1 => ?_
  exact (hd F1 H1 ca1 σ s1 vs ds b1 i1).go b1 q1
theorem d_lst (ha : PAd X cl e W es ga) (hst : PE X (.List es pos) (tLst (rdA X.K cl e W ga))) : PEd X cl e W (.List es pos) (dLst ga) := pe_w hst fun σ H Q ⟨F, ca, s, b, q⟩ => by
  refine use_rdA b q fun vs ds s1 F1 H1 ca1 b1 i1 x1 p1 q1 => ?_
  by_cases hz : ds.length ≤ 100000
  · rw [if_pos hz] at q1
    refine ⟨sz (by rw [i1.length]; omega), fun p hp => ?_⟩
    exact q1 (.ref p) F1 _ ca1 (b1.laid hp) (Ex.refl F1) (Pre.refl ca1) ⟨p, vs, rfl, upd_same, i1, b1.notF hp, b1.notca hp, b1.notH0 hp⟩
  · rw [if_neg hz] at q1
    exact False.elim q1
theorem d_tup (ha : PAd X cl e W es ga) (hst : PE X x (tTup (rdA X.K cl e W ga))) : PEd X cl e W x (dTup ga) := pe_w hst fun σ H Q ⟨F, ca, s, b, q⟩ => by
  refine use_rdA b q fun vs ds s1 F1 H1 ca1 b1 i1 x1 p1 q1 => ?_
  by_cases hz : ds.length ≤ 100000
  · rw [if_pos hz] at q1
    refine ⟨sz (by rw [i1.length]; omega), fun p hp => ?_⟩
    have hF := b1.notF hp
    refine q1 (.ref p) _ _ ca1 ((b1.laid hp).fix upd_same hF (b1.notca hp) (b1.notH0 hp)) (Ex.new hF) (Pre.refl ca1) ?_
    exact .tup (SqT.of upd_same) (i1.mono (Ex.new hF) (Pre.refl ca1))
  · rw [if_neg hz] at q1
    exact False.elim q1

/-! ### tests -/
theorem rd_test {σ : L2.St} {H : Hp} {Q : Bool → Hp → Prop} (q : rdB X.K cl e W (bTest f) σ H Q) : rd X.K cl e W f σ H fun x H1 => ∃ k, x = .bl k ∧ Q k H1 := by
  obtain ⟨F, ca, s, b, q⟩ := q
  refine useB_rd b q fun v d s1 F1 H1 ca1 b1 i1 x1 p1 q1 => ?_
  cases i1 with
  | bl k => exact ⟨k, rfl, q1 F1 H1 ca1 b1 (Ex.refl F1) (Pre.refl ca1)⟩
  | _ => exact False.elim q1
theorem rd_bOp {r : R2} {p : List Cell → D → D → Po} (hd : OpD X cl e r p) {σ : L2.St} {H : Hp} {Q : Bool → Hp → Prop} (q : rdB X.K cl e W (bTest (dOp p f g)) σ H Q) : tTest (tOp r (rd X.K cl e W f) (rd X.K cl e W g)) σ H Q :=
  rd_op hd (rd_test q)
theorem t_cmp {op : CmpOp} {r : R2} {p : List Cell → D → D → Po} (ho : OpR X (compareOp op) r) (hd : OpD X cl e r p) (ha : PEd X cl e W a f) (hb : PEd X cl e W b g) (hm : behindInMarks op b = false) : PTd X cl e W (.Compare a [op] [b] pos) (bTest (dOp p f g)) :=
  pt_w (pt_cmpR ho ha hb hm) fun _ _ _ q => rd_bOp hd q
theorem t_val (ha : PEd X cl e W a f) (he : ∀ whole, isTrue a X.env whole = (do let v ← whole; standAt a.pos; holding [v] (truthy v)) := by intro _; rfl) : PTd X cl e W a (bTest f) :=
  pt_w (pt_val ha he) fun _ _ _ q => rd_test q
theorem truD_ok {F H : Hp} {ca : List Addr} {σ : L2.St} {s : S} {v : V} {d : D} {k : Bool} (b : Bx X cl e F H ca σ s) (i : Is X.K cl F ca v d) (q : truD s.ce d = some k) : TruV X.K v H k := by
  cases i with
  | non =>
    cases q
    rfl
  | bl z =>
    cases q
    rfl
  | int z =>
    cases q
    rfl
  | str y =>
    have q' : (if y.length ≤ 100000 then some ((y.length : Int) != 0) else none) = some k := q
    by_cases hz : y.length ≤ 100000
    · rw [if_pos hz] at q'
      cases q'
      exact ⟨sz (by omega), rfl⟩
    · rw [if_neg hz] at q'
      cases q'
  | lst hl hi =>
    cases q
    refine .inl ⟨_, SqL.of (b.fh _ _ hl), ?_⟩
    cases hi <;> rfl
  | tup hl hi =>
    cases q
    refine .inr (.inl ⟨_, ex_t b.fh hl, ?_⟩)
    cases hi <;> rfl
  | @rf a0 j hj =>
    have q' : (match cellL s.ce[j]? with
      | some xs => some (!xs.isEmpty)
      | none => none) = some k := q
    cases e1 : cellL s.ce[j]? with
    | none =>
      rw [e1] at q'
      cases q'
    | some xs =>
      rw [e1] at q'
      cases q'
      obtain ⟨a, vs, e2, hl, hi⟩ := look_ok b (.rf hj) (xs := xs) e1
      cases e2
      refine .inl ⟨_, hl, ?_⟩
      cases hi <;> rfl
  | _ => cases q
theorem t_tru (ha : PEd X cl e W a f) (he : ∀ whole, isTrue a X.env whole = (do let v ← whole; standAt a.pos; holding [v] (truthy v)) := by intro _; rfl) : PTd X cl e W a (bTru f) :=
  pt_w (pt_truth ha he) fun σ H Q ⟨F, ca, s, b, q⟩ => by
    refine useB_rd b q fun v d s1 F1 H1 ca1 b1 i1 x1 p1 q1 => ?_
    cases e1 : truD s1.ce d with
    | none =>
      rw [e1] at q1
      exact False.elim q1
    | some k =>
      rw [e1] at q1
      exact ⟨k, truD_ok b1 i1 e1, q1 F1 H1 ca1 b1 (Ex.refl F1) (Pre.refl ca1)⟩
theorem t_and (ha : PTd X cl e W a tb) (hb : PWd X cl e W (.BoolOp .And (b :: rest) pos) tc) : PWd X cl e W (.BoolOp .And (a :: b :: rest) pos) (bAnd tb tc) :=
  pw_w (pw_and ha hb) fun σ H Q ⟨F, ca, s, b, q⟩ => by
    refine useB_rdB b q fun d s1 F1 H1 ca1 b1 x1 p1 q1 => ?_
    cases d with
    | true => exact ⟨F1, ca1, s1, b1, q1⟩
    | false => exact q1 F1 H1 ca1 b1 (Ex.refl F1) (Pre.refl ca1)
theorem t_or (ha : PTd X cl e W a tb) (hb : PWd X cl e W (.BoolOp .Or (b :: rest) pos) tc) : PWd X cl e W (.BoolOp .Or (a :: b :: rest) pos) (bOr tb tc) :=
  pw_w (pw_or ha hb) fun σ H Q ⟨F, ca, s, b, q⟩ => by
    refine useB_rdB b q fun d s1 F1 H1 ca1 b1 x1 p1 q1 => ?_
    cases d with
    | true => exact q1 F1 H1 ca1 b1 (Ex.refl F1) (Pre.refl ca1)
    | false => exact ⟨F1, ca1, s1, b1, q1⟩
theorem t_not (ha : PTd X cl e W a tb) : PTd X cl e W (.UnaryOp .Not a pos) (bNot tb) :=
  pt_w (pt_not ha) fun σ H Q ⟨F, ca, s, b, q⟩ => by
    refine useB_rdB b q fun d s1 F1 H1 ca1 b1 x1 p1 q1 => ?_
    exact q1 F1 H1 ca1 b1 (Ex.refl F1) (Pre.refl ca1)
theorem d_if (hc : PTd X cl e W c tb) (ha : PEd X cl e W a f) (hb : PEd X cl e W b g) : PEd X cl e W (.IfExp c a b pos) (dIf tb f g) :=
  pe_w (pe_ifExp hc ha hb) fun σ H Q ⟨F, ca, s, b, q⟩ => by
    refine use_rdB b q fun d s1 F1 H1 ca1 b1 x1 p1 q1 => ?_
    cases d with
    | true => exact ⟨F1, ca1, s1, b1, q1⟩
    | false => exact ⟨F1, ca1, s1, b1, q1⟩
/-! ### and, or, not as values -/
theorem d_one {op} (ha : PEd X cl e W a f) : PEd X cl e W (.BoolOp op [a] pos) f := pe_one ha
theorem d_and (ha : PEd X cl e W a f) (hb : PEd X cl e W (.BoolOp .And (b :: rest) pos) g) : PEd X cl e W (.BoolOp .And (a :: b :: rest) pos) (dAnd f g) :=
  pe_w (pe_and ha hb) fun σ H Q ⟨F, ca, s, b, q⟩ => by
    refine use_rd b q fun v d s1 F1 H1 ca1 b1 i1 x1 p1 q1 => ?_
    cases i1 with
    | bl k =>
      refine ⟨k, rfl, ?_⟩
      cases k with
      | true => exact ⟨F1, ca1, s1, b1, q1⟩
      | false => exact q1 _ F1 H1 ca1 b1 (Ex.refl F1) (Pre.refl ca1) (.bl _)
    | _ => exact False.elim q1
theorem d_or (ha : PEd X cl e W a f) (hb : PEd X cl e W (.BoolOp .Or (b :: rest) pos) g) : PEd X cl e W (.BoolOp .Or (a :: b :: rest) pos) (dOr f g) :=
  pe_w (pe_or ha hb) fun σ H Q ⟨F, ca, s, b, q⟩ => by
    refine use_rd b q fun v d s1 F1 H1 ca1 b1 i1 x1 p1 q1 => ?_
    cases i1 with
    | bl k =>
      refine ⟨k, rfl, ?_⟩
      cases k with
      | true => exact q1 _ F1 H1 ca1 b1 (Ex.refl F1) (Pre.refl ca1) (.bl _)
      | false => exact ⟨F1, ca1, s1, b1, q1⟩
    | _ => exact False.elim q1
theorem d_not (ha : PEd X cl e W a f) : PEd X cl e W (.UnaryOp .Not a pos) (dNot f) :=
  pe_w (pe_not ha) fun σ H Q ⟨F, ca, s, b, q⟩ => by
    refine use_rd b q fun v d s1 F1 H1 ca1 b1 i1 x1 p1 q1 => ?_
    cases i1 with
    | bl k => exact ⟨k, rfl, q1 _ F1 H1 ca1 b1 (Ex.refl F1) (Pre.refl ca1) (.bl _)⟩
    | _ => exact False.elim q1
end

/-! ### built-ins by values -/
def lenD (ce : List Cell) : D → Po
  | .str y => if y.length ≤ 1000000 then .v (.int y.length) else .no
  | d => match lookU ce d with
    | some xs => .v (.int xs.length)
    | none => .no
def b1 (k : List Cell → D → Po) (ce : List Cell) : List D → Po
  | [d] => k ce d
  | _ => .no
def b2 (k : List Cell → D → D → Po) (ce : List Cell) : List D → Po
  | [d, f] => k ce d f
  | _ => .no
def absD (_ : List Cell) : D → Po
  | .int i => .v (.int (if i < 0 then -i else i))
  | _ => .no
def maxD (_ : List Cell) : D → D → Po
  | .int i, .int j => .v (.int (if j > i then j else i))
  | _, _ => .no
def minD (_ : List Cell) : D → D → Po
  | .int i, .int j => .v (.int (if j < i then j else i))
  | _, _ => .no
def intD (_ : List Cell) : D → Po
  | .int i => .v (.int i)
  | .bl k => .v (.int (if k then 1 else 0))
  | _ => .no
def listD (ce : List Cell) (d : D) : Po := match lookU ce d with
  | some xs => .l xs
  | none => .no
/-- the ints of a list -/
def intsD : List D → Option (List Int)
  | [] => some []
  | .int i :: ds => (intsD ds).map (i :: ·)
  | _ => none
def isortI (ns : List Int) : List Int := ns.mergeSort (· ≤ ·)
def sortedD (ce : List Cell) (d : D) : Po := match look ce d with
  | some xs => match intsD xs with
    | some ns => .l ((isortI ns).map .int)
    | none => .no
  | none => .no
def gcdD (_ : List Cell) : D → D → Po
  | .int i, .int j => .v (.int ((Nat.gcd i.natAbs j.natAbs : Nat) : Int))
  | _, _ => .no
/-- True, False of a list -/
def blsD : List D → Option (List Bool)
  | [] => some []
  | .bl i :: ds => (blsD ds).map (i :: ·)
  | _ => none
def allD (ce : List Cell) (d : D) : Po := match look ce d with
  | some xs => match blsD xs with
    | some bs => .v (.bl (bs.all id))
    | none => .no
  | none => .no
def sumD (ce : List Cell) (d : D) : Po := match look ce d with
  | some xs => match intsD xs with
    | some ns => .v (.int ns.sum)
    | none => .no
  | none => .no
def strD (_ : List Cell) : D → Po
  | .int i => if bits i < 1900 then .v (.str (toString i)) else .no
  | _ => .no
theorem intsD_eq : ∀ {ds : List D} {ns : List Int}, intsD ds = some ns → ds = ns.map D.int
  | [], ns, h => by
    cases h
    rfl
  | .int i :: ds, ns, h => by
    have h' : (intsD ds).map (i :: ·) = some ns := h
    cases e : intsD ds with
    | none =>
      rw [e] at h'
      cases h'
    | some ms =>
      rw [e] at h'
      cases h'
      rw [intsD_eq e] <;> rfl
  | .non :: _, _, h => by cases h
  | .bl _ :: _, _, h => by cases h
  | .str _ :: _, _, h => by cases h
  | .lst _ :: _, _, h => by cases h
  | .tup _ :: _, _, h => by cases h
  | .obj _ _ :: _, _, h => by cases h
  | .ro _ :: _, _, h => by cases h
  | .rf _ :: _, _, h => by cases h
  | .xc _ _ :: _, _, h => by cases h
theorem blsD_eq : ∀ {ds : List D} {ns : List Bool}, blsD ds = some ns → ds = ns.map D.bl
  | [], ns, h => by
    cases h
    rfl
  | .bl i :: ds, ns, h => by
    have h' : (blsD ds).map (i :: ·) = some ns := h
    cases e : blsD ds with
    | none =>
      rw [e] at h'
      cases h'
    | some ms =>
      rw [e] at h'
      cases h'
      rw [blsD_eq e] <;> rfl
  | .non :: _, _, h => by cases h
  | .int _ :: _, _, h => by cases h
  | .str _ :: _, _, h => by cases h
  | .lst _ :: _, _, h => by cases h
  | .tup _ :: _, _, h => by cases h
  | .obj _ _ :: _, _, h => by cases h
  | .ro _ :: _, _, h => by cases h
  | .rf _ :: _, _, h => by cases h
  | .xc _ _ :: _, _, h => by cases h
@[simp] theorem intsD_map (ns : List Int) : intsD (ns.map D.int) = some ns := by
  induction ns with
  | nil => rfl
  | cons n ns ih =>
    show (intsD (ns.map D.int)).map (n :: ·) = _
    rw [ih] <;> rfl
@[simp] theorem blsD_map (ns : List Bool) : blsD (ns.map D.bl) = some ns := by
  induction ns with
  | nil => rfl
  | cons n ns ih =>
    show (blsD (ns.map D.bl)).map (n :: ·) = _
    rw [ih] <;> rfl
/-- two ascending lists with the same items are one -/
theorem sorted_one : ∀ {xs ys : List Int}, xs.Perm ys → xs.Pairwise (· ≤ ·) → ys.Pairwise (· ≤ ·) → xs = ys := by
  intro xs
  induction xs with
  | nil =>
    intro ys p _ _
    exact (List.Perm.nil_eq p)
  | cons x xs ih =>
    intro ys p h1 h2
    cases ys with
    | nil => exact absurd p.symm.nil_eq (by simp)
    | cons y ys =>
      have e : x = y := by
        have hx : x ∈ y :: ys := p.subset (List.mem_cons_self)
        have hy : y ∈ x :: xs := p.symm.subset (List.mem_cons_self)
        rw [List.pairwise_cons] at h1 h2
        rcases List.mem_cons.mp hx with z | z
        · exact z
        · rcases List.mem_cons.mp hy with w | w
          · exact w.symm
          · have a1 := h1.1 y w
            have a2 := h2.1 x z
            omega
      subst e
      rw [ih (List.Perm.cons_inv p) (List.pairwise_cons.mp h1).2 (List.pairwise_cons.mp h2).2]
theorem isortI_perm (ns : List Int) : (isortI ns).Perm ns := List.mergeSort_perm ns _
theorem isortI_sorted (ns : List Int) : (isortI ns).Pairwise (· ≤ ·) := by
  have h := List.pairwise_mergeSort (le := fun (a b : Int) => decide (a ≤ b)) (fun a b c h1 h2 => by
    simp only [decide_eq_true_eq] at h1 h2 ⊢
    omega) (fun a b => by
    simp only [Bool.or_eq_true, decide_eq_true_eq]
    omega) ns
  exact h.imp fun q => by simpa using q

section
variable {X : Cx} {cl : Cl} {e : Ent}
theorem bd1 {r : List V → Hp → VK → Prop} {k : List Cell → D → Po} (h : ∀ (F H : Hp) (ca : List Addr) (σ : L2.St) (s : S) (v : V) (d : D), Bx X cl e F H ca σ s → Is X.K cl F ca v d → PoK X cl e F H ca σ s (fun Q => r [v] H Q) (k s.ce d)) : BiD X cl e r (b1 k) :=
  fun F H ca σ s vs ds b i => by
    cases i with
    | nil => trivial
    | cons i1 t =>
      cases t with
      | nil => exact h F H ca σ s _ _ b i1
      | cons _ _ => trivial
theorem bd2 {r : List V → Hp → VK → Prop} {k : List Cell → D → D → Po} (h : ∀ (F H : Hp) (ca : List Addr) (σ : L2.St) (s : S) (v w : V) (d f : D), Bx X cl e F H ca σ s → Is X.K cl F ca v d → Is X.K cl F ca w f → PoK X cl e F H ca σ s (fun Q => r [v, w] H Q) (k s.ce d f)) : BiD X cl e r (b2 k) :=
  fun F H ca σ s vs ds b i => by
    cases i with
    | nil => trivial
    | cons i1 t =>
      cases t with
      | nil => trivial
      | cons i2 t =>
        cases t with
        | nil => exact h F H ca σ s _ _ _ _ b i1 i2
        | cons _ _ => trivial
theorem bd_abs : BiD X cl e (fun xs H Q => ∃ i, xs = [V.int i] ∧ Q (.int (if i < 0 then -i else i)) H) (b1 absD) := bd1 fun F H ca σ s v d b i => by
  cases i with
  | int i => exact .val b (.int _) fun Q q => ⟨i, rfl, q⟩
  | _ => trivial
theorem bd_max : BiD X cl e (fun xs H Q => ∃ i j, xs = [V.int i, V.int j] ∧ Q (.int (if j > i then j else i)) H) (b2 maxD) := bd2 fun F H ca σ s v w d f b i j => by
  cases i with
  | int i =>
    cases j with
    | int j => exact .val b (.int _) fun Q q => ⟨i, j, rfl, q⟩
    | _ => trivial
  | _ => cases j <;> trivial
theorem bd_min : BiD X cl e (fun xs H Q => ∃ i j, xs = [V.int i, V.int j] ∧ Q (.int (if j < i then j else i)) H) (b2 minD) := bd2 fun F H ca σ s v w d f b i j => by
  cases i with
  | int i =>
    cases j with
    | int j => exact .val b (.int _) fun Q q => ⟨i, j, rfl, q⟩
    | _ => trivial
  | _ => cases j <;> trivial
theorem bd_int : BiD X cl e (fun xs H Q => (∃ i, xs = [V.int i] ∧ Q (.int i) H) ∨ ∃ k, xs = [V.bl k] ∧ Q (.int (if k then 1 else 0)) H) (b1 intD) := bd1 fun F H ca σ s v d b i => by
  cases i with
  | int i => exact .val b (.int _) fun Q q => .inl ⟨i, rfl, q⟩
  | bl k => exact .val b (.int _) fun Q q => .inr ⟨k, rfl, q⟩
  | _ => trivial
def rLenAll (K : PySem.W.Frag) : List V → Hp → VK → Prop := fun xs H Q => (∃ p ys, xs = [.ref p] ∧ (SqL K H p ys ∨ SqT K H p ys) ∧ Q (.int ys.length) H) ∨ ∃ z, xs = [.str z] ∧ z.length ≤ sizeLine ∧ Q (.int z.length) H
theorem call_lenAll : CallR X (.builtin "len") (rLenAll X.K) := CallR.or call_len_seq call_len_str
theorem lookU_len {F H : Hp} {ca : List Addr} {σ : L2.St} {s : S} {v : V} {d : D} (b : Bx X cl e F H ca σ s) (i : Is X.K cl F ca v d) : PoK X cl e F H ca σ s (fun Q => rLenAll X.K [v] H Q) (match lookU s.ce d with
    | some xs => .v (.int xs.length)
    | none => .no) := by
  cases e1 : lookU s.ce d with
  | none => trivial
  | some xs =>
    obtain ⟨a, vs, rfl, hl, hi⟩ := lookU_ok b i e1
    refine .val b (.int _) fun Q q => .inl ⟨a, vs, rfl, hl, ?_⟩
    rw [hi.length]
    exact q
theorem bd_len : BiD X cl e (rLenAll X.K) (b1 lenD) := bd1 fun F H ca σ s v d b i => by
  have gen := lookU_len b i
  cases i with
  | str y => exact .ite fun hz => .val b (.int _) fun Q q => .inr ⟨y, rfl, sz hz, q⟩
  | _ => exact gen
theorem bd_list : BiD X cl e (fun xs H Q => ∃ p ys, xs = [V.ref p] ∧ (SqL X.K H p ys ∨ SqT X.K H p ys) ∧ ∀ l, H l = none → Q (.ref l) (upd H l (.lst ys))) (b1 listD) := bd1 fun F H ca σ s v d b i => by
  unfold listD
  cases e1 : lookU s.ce d with
  | none => trivial
  | some xs =>
    obtain ⟨a, vs, rfl, hl, hi⟩ := lookU_ok b i e1
    exact fun Q q => ⟨a, vs, rfl, hl, fun l hp => q l vs hp hi⟩
theorem bd_sorted : BiD X cl e (rSortedI X.K) (b1 sortedD) := bd1 fun F H ca σ s v d b i => by
  unfold sortedD
  cases e1 : look s.ce d with
  | none => trivial
  | some xs =>
    obtain ⟨a, vs, rfl, hl, hi⟩ := look_ok b i e1
    cases e2 : intsD xs with
    | none =>
      show PoK X cl e F H ca σ s _ (match intsD xs with
        | some ns => Po.l ((isortI ns).map .int)
        | none => .no)
      rw [e2]
      trivial
    | some ns =>
      show PoK X cl e F H ca σ s _ (match intsD xs with
        | some ns => Po.l ((isortI ns).map .int)
        | none => .no)
      rw [e2]
      rw [intsD_eq e2] at hi
      rw [of_ints hi] at hl
      refine fun Q q => ⟨a, ns, rfl, hl, fun ns' p pm so hp => ?_⟩
      rw [sorted_one (pm.trans (isortI_perm ns).symm) so (isortI_sorted ns)]
      exact q p _ hp (isL_ints _)
theorem bd_gcd : BiD X cl e rGcd (b2 gcdD) := bd2 fun F H ca σ s v w d f b i j => by
  cases i with
  | int i =>
    cases j with
    | int j => exact .val b (.int _) fun Q q => ⟨i, j, rfl, q⟩
    | _ => trivial
  | _ => cases j <;> trivial
theorem bd_all : BiD X cl e (rAll X.K) (b1 allD) := bd1 fun F H ca σ s v d b i => by
  unfold allD
  cases e1 : look s.ce d with
  | none => trivial
  | some xs =>
    obtain ⟨a, vs, rfl, hl, hi⟩ := look_ok b i e1
    cases e2 : blsD xs with
    | none =>
      show PoK X cl e F H ca σ s _ (match blsD xs with
        | some bs => Po.v (.bl (bs.all id))
        | none => .no)
      rw [e2]
      trivial
    | some ns =>
      show PoK X cl e F H ca σ s _ (match blsD xs with
        | some bs => Po.v (.bl (bs.all id))
        | none => .no)
      rw [e2]
      rw [blsD_eq e2] at hi
      rw [of_bls hi] at hl
      exact .val b (.bl _) fun Q q => ⟨a, ns, rfl, hl, q⟩
theorem bd_sum : BiD X cl e (rSum X.K) (b1 sumD) := bd1 fun F H ca σ s v d b i => by
  unfold sumD
  cases e1 : look s.ce d with
  | none => trivial
  | some xs =>
    obtain ⟨a, vs, rfl, hl, hi⟩ := look_ok b i e1
    cases e2 : intsD xs with
    | none =>
      show PoK X cl e F H ca σ s _ (match intsD xs with
        | some ns => Po.v (.int ns.sum)
        | none => .no)
      rw [e2]
      trivial
    | some ns =>
      show PoK X cl e F H ca σ s _ (match intsD xs with
        | some ns => Po.v (.int ns.sum)
        | none => .no)
      rw [e2]
      rw [intsD_eq e2] at hi
      rw [of_ints hi] at hl
      exact .val b (.int _) fun Q q => ⟨a, ns, rfl, hl, q⟩
theorem bd_str : BiD X cl e (fun xs H Q => ∃ i, xs = [V.int i] ∧ i.natAbs.log2 < 1920 ∧ Q (.str (toString i)) H) (b1 strD) := bd1 fun F H ca σ s v d b i => by
  cases i with
  | int i => exact .ite fun hz => .val b (.str _) fun Q q => ⟨i, rfl, by unfold bits at hz; omega, q⟩
  | _ => trivial

/-! ### subscripts, slices -/
def itemK (o : Option D) : Po := match o with
  | some d => .v d
  | none => .no
def atL (a : Option (List D)) (i : Int) : Po := match a with
  | some xs => itemK (atI xs i)
  | none => .no
def pIx (ce : List Cell) : D → D → Po
  | .str z, .int i => if z.length ≤ 1000000 then (match atI z.cps.toList i with
    | some c => .v (.str ⟨#[c]⟩)
    | none => .no) else .no
  | a, .int i => atL (lookU ce a) i
  | _, _ => .no
theorem isL_at {F : Hp} {ca : List Addr} {vs : List V} {ds : List D} {i : Int} {d : D} (h : IsL X.K cl F ca vs ds) (q : atI ds i = some d) : ∃ v, atI vs i = some v ∧ Is X.K cl F ca v d := by
  unfold atI at q ⊢
  rw [h.length]
  cases e1 : ixN ds.length i with
  | none =>
    rw [e1] at q
    cases q
  | some j =>
    rw [e1] at q
    have q' : ds[j]? = some d := q
    obtain ⟨v, h1, h2⟩ := h.get q'
    exact ⟨v, h1, h2⟩
theorem atL_ok {F H : Hp} {ca : List Addr} {σ : L2.St} {s : S} {v : V} {d : D} {i : Int} (b : Bx X cl e F H ca σ s) (h : Is X.K cl F ca v d) : PoK X cl e F H ca σ s (fun Q => rIx X.K v (.int i) H Q) (atL (lookU s.ce d) i) := by
  cases e1 : lookU s.ce d with
  | none => trivial
  | some xs =>
    show PoK X cl e F H ca σ s _ (itemK (atI xs i))
    cases e2 : atI xs i with
    | none => trivial
    | some x =>
      obtain ⟨a, vs, rfl, hl, hi⟩ := lookU_ok b h e1
      obtain ⟨u, h1, h2⟩ := isL_at hi e2
      rcases hl with hl | hl
      · exact .val b h2 fun Q q => .inl ⟨a, vs, i, u, rfl, rfl, hl, h1, q⟩
      · exact .val b h2 fun Q q => .inr (.inl ⟨a, vs, i, u, rfl, rfl, hl, h1, q⟩)
theorem od_ix : OpD X cl e (rIx X.K) pIx := fun F H ca σ s v1 v2 d1 d2 b h1 h2 => by
  cases h2 with
  | int i =>
    have gen := atL_ok (i := i) b h1
    cases h1 with
    | str z =>
      refine .ite fun hz => ?_
      cases e1 : atI z.cps.toList i with
      | none => trivial
      | some c => exact .val b (.str _) fun Q q => .inr (.inr ⟨z, i, c, rfl, rfl, sz hz, e1, q⟩)
    | _ => exact gen
  | _ => cases h1 <;> trivial
end
section
variable {X : Cx} {cl : Cl} {e : Ent} {W : WX} {a b : Expr} {f g : DE} {pos : Pos}
theorem d_ix (ha : PEd X cl e W a f) (hb : PEd X cl e W b g) (hs : PlainIx b := by exact fun _ _ => rfl) : PEd X cl e W (.Subscript a b pos) (dOp pIx f g) :=
  pe_w (pe_ix ix_seq ha hb hs) fun _ _ _ q => rd_op od_ix q
end
end Dv

set_option maxRecDepth 100000
set_option maxHeartbeats 4000000
/-! calls by a def's own function on data; statements -/
namespace Dv
open PySem PySem.Spec PyProof.Rows L2

/-! ### references below a bound -/
mutual
def low (n : Nat) : D → Bool
  | .non => true
  | .bl _ => true
  | .int _ => true
  | .str _ => true
  | .lst xs => lowL n xs
  | .tup xs => lowL n xs
  | .ro xs => lowL n xs
  | .obj _ fs => lowF n fs
  | .rf j => decide (j < n)
  | .xc _ fs => lowF n fs
def lowL (n : Nat) : List D → Bool
  | [] => true
  | d :: ds => low n d && lowL n ds
def lowF (n : Nat) : List (Str × D) → Bool
  | [] => true
  | (_, d) :: ds => low n d && lowF n ds
end
def lowK (n : Nat) : List (Key × D) → Bool
  | [] => true
  | (_, d) :: ds => low n d && lowK n ds
def lowC (n : Nat) : Cell → Bool
  | .gone => true
  | .lst xs => lowL n xs
  | .ins _ fs => lowF n fs
  | .dic kvs => lowK n kvs
  | .lk kvs => lowK n kvs
@[simp] theorem lowL_ints (n : Nat) (ns : List Int) : lowL n (ns.map D.int) = true := by
  induction ns with
  | nil => rfl
  | cons a as ih =>
    show (low n (.int a) && lowL n (as.map D.int)) = true
    rw [ih] <;> rfl
@[simp] theorem lowL_bls (n : Nat) (ns : List Bool) : lowL n (ns.map D.bl) = true := by
  induction ns with
  | nil => rfl
  | cons a as ih =>
    show (low n (.bl a) && lowL n (as.map D.bl)) = true
    rw [ih] <;> rfl
section
variable {K : PySem.W.Frag} {cl : Cl} {F H : Hp} {ca ca' : List Addr}
mutual
theorem Is.down (p : Pre ca ca') : ∀ {v : V} {d : D}, Is K cl F ca' v d → low ca.length d = true → Is K cl F ca v d
  | _, _, .non, _ => .non
  | _, _, .bl b, _ => .bl b
  | _, _, .int i, _ => .int i
  | _, _, .str s, _ => .str s
  | _, _, .lst h l, q => .lst h (IsL.down p l q)
  | _, _, .ro h l, q => .ro h (IsL.down p l q)
  | _, _, .tup h l, q => .tup h (IsL.down p l q)
  | _, _, .obj h l, q => .obj h (IsF.down p l q)
  | _, .rf j, .rf h, q => by
    have hj : j < ca.length := of_decide_eq_true q
    have e := p j _ (List.getElem?_eq_getElem hj)
    rw [h] at e
    cases e
    exact .rf (List.getElem?_eq_getElem hj)
  | _, _, .xc0 h, _ => .xc0 h
  | _, _, .xcf h g l, q => .xcf h g (IsF.down p l q)
theorem IsL.down (p : Pre ca ca') : ∀ {v : List V} {d : List D}, IsL K cl F ca' v d → lowL ca.length d = true → IsL K cl F ca v d
  | _, _, .nil, _ => .nil
  | _, d :: ds, .cons h t, q => by
    have q' : (low ca.length d && lowL ca.length ds) = true := q
    rw [Bool.and_eq_true] at q'
    exact .cons (Is.down p h q'.1) (IsL.down p t q'.2)
theorem IsF.down (p : Pre ca ca') : ∀ {v : List (Str × V)} {d : List (Str × D)}, IsF K cl F ca' v d → lowF ca.length d = true → IsF K cl F ca v d
  | _, _, .nil, _ => .nil
  | _, (k, d) :: ds, .cons h t, q => by
    have q' : (low ca.length d && lowF ca.length ds) = true := q
    rw [Bool.and_eq_true] at q'
    exact .cons (Is.down p h q'.1) (IsF.down p t q'.2)
end
theorem IsK.down (p : Pre ca ca') : ∀ {v : List (Key × V)} {d : List (Key × D)}, IsK K cl F ca' v d → lowK ca.length d = true → IsK K cl F ca v d
  | _, _, .nil, _ => .nil
  | _, (k, d) :: ds, .cons h t, q => by
    have q' : (low ca.length d && lowK ca.length ds) = true := q
    rw [Bool.and_eq_true] at q'
    exact .cons (Is.down p h q'.1) (IsK.down p t q'.2)
theorem CellOk.down (p : Pre ca ca') {a : Addr} {c : Cell} (h : CellOk K cl F H ca' a c) (q : lowC ca.length c = true) : CellOk K cl F H ca a c := by
  cases c with
  | gone => exact h
  | lst xs =>
    obtain ⟨h0, vs, h1, i⟩ := h
    exact ⟨h0, vs, h1, i.down p q⟩
  | ins c fs =>
    obtain ⟨h0, dx, vs, h1, i⟩ := h
    exact ⟨h0, dx, vs, h1, i.down p q⟩
  | dic fs =>
    obtain ⟨h0, vs, h1, i⟩ := h
    exact ⟨h0, vs, h1, i.down p q⟩
  | lk fs =>
    obtain ⟨od, vs, h0, h1, i⟩ := h
    exact ⟨od, vs, h0, h1, i.down p q⟩
mutual
theorem Is.low : ∀ {v : V} {d : D}, Is K cl F ca v d → low ca.length d = true
  | _, _, .non => rfl
  | _, _, .bl b => rfl
  | _, _, .int i => rfl
  | _, _, .str s => rfl
  | _, _, .lst h l => IsL.low l
  | _, _, .ro h l => IsL.low l
  | _, _, .tup h l => IsL.low l
  | _, _, .obj h l => IsF.low l
  | _, _, .rf h => decide_eq_true (List.getElem?_eq_some_iff.mp h).1
  | _, _, .xc0 h => rfl
  | _, _, .xcf h g l => IsF.low l
theorem IsL.low : ∀ {v : List V} {d : List D}, IsL K cl F ca v d → lowL ca.length d = true
  | _, _, .nil => rfl
  | _, d :: ds, .cons h t => by
    show (Dv.low ca.length d && lowL ca.length ds) = true
    rw [Is.low h, IsL.low t] <;> rfl
theorem IsF.low : ∀ {v : List (Str × V)} {d : List (Str × D)}, IsF K cl F ca v d → lowF ca.length d = true
  | _, _, .nil => rfl
  | _, (k, d) :: ds, .cons h t => by
    show (Dv.low ca.length d && lowF ca.length ds) = true
    rw [Is.low h, IsF.low t] <;> rfl
end
theorem IsK.low : ∀ {v : List (Key × V)} {d : List (Key × D)}, IsK K cl F ca v d → lowK ca.length d = true
  | _, _, .nil => rfl
  | _, (k, d) :: ds, .cons h t => by
    show (Dv.low ca.length d && lowK ca.length ds) = true
    rw [Is.low h, IsK.low t] <;> rfl
theorem CellOk.low {a : Addr} {c : Cell} (h : CellOk K cl F H ca a c) : lowC ca.length c = true := by
  cases c with
  | gone => rfl
  | lst xs =>
    obtain ⟨h0, vs, h1, i⟩ := h
    exact i.low
  | ins c fs =>
    obtain ⟨h0, dx, vs, h1, i⟩ := h
    exact i.low
  | dic fs =>
    obtain ⟨h0, vs, h1, i⟩ := h
    exact i.low
  | lk fs =>
    obtain ⟨od, vs, h0, h1, i⟩ := h
    exact i.low
end

/-! ### within and behind a call or a block -/
/-- what a callee leaves behind, told by its caller's cells -/
structure Af (K : PySem.W.Frag) (cl : Cl) (F H : Hp) (ca : List Addr) (F' H' : Hp) (ca' : List Addr) (ce' : List Cell) : Prop where
  fh : Ex F' H'
  ex : Ex F F'
  keep : ∀ b o, H b = some o → b ∉ ca → H' b = some o
  free : ∀ b o, H b = some o → F b = none → F' b = none
  hcl : ∀ b o, H b = some o → ∃ o', H' b = some o'
  cel : CeOk K cl F' H' ca' ce'
  pre : Pre ca ca'
  newc : ∀ a, a ∈ ca' → a ∈ ca ∨ H a = none
section
variable {K : PySem.W.Frag} {cl : Cl} {e : Ent} {F F' H H' : Hp} {ca ca' : List Addr} {σ σ' : L2.St} {s s' : S} {ce' : List Cell}
theorem B.after (b : B K cl e F H ca σ s) (a : Af K cl F H ca F' H' ca' ce') : B K cl e F' H' ca' σ ⟨s.sl, ce', s.n0⟩ where
  fh := a.fh
  exF := b.exF.trans a.ex
  keep := fun c o q n => by
    refine a.keep c o (b.keep c o q n) fun hm => ?_
    rcases b.newc c hm with w | w
    · exact n w
    · rw [q] at w
      cases w
  free := fun c o q n => by
    obtain ⟨o', h⟩ := b.hcl c o q
    exact a.free c o' h (b.free c o q n)
  pre := b.pre.trans a.pre
  newc := fun c q => by
    rcases a.newc c q with w | w
    · exact b.newc c w
    · exact .inr (b.notH0 w)
  cel := a.cel
  len := b.len
  slo := fun i d q => by
    obtain ⟨v, h1, h2⟩ := b.slo i d q
    exact ⟨v, h1, h2.mono a.ex a.pre⟩
  hcl := fun c o q => by
    obtain ⟨o', h⟩ := b.hcl c o q
    exact a.hcl c o' h
  n0 := b.n0
/-- a body's start, on its caller's cells -/
theorem B.enter {vs : List V} {ds : List D} {ce : List Cell} (x : Ex F H) (c : CeOk K cl F H ca ce) (i : IsL K cl F ca vs ds) {N : List Str} (hl : vs.length ≤ N.length) :
    B K cl ⟨F, H, ca⟩ F H ca (L2.start N vs) ⟨ds.map some ++ List.replicate (N.length - ds.length) none, ce, ce.length⟩ := by
  refine ⟨x, Ex.refl F, fun _ _ q _ => q, fun _ _ _ n => n, Pre.refl ca, fun _ h => .inl h, c, ?_, fun k d q => ?_, fun _ o q => ⟨o, q⟩, c.1⟩
  · have l := i.length
    show (ds.map some ++ List.replicate (N.length - ds.length) none).length = (L2.start N vs).length
    unfold L2.start
    simp
    omega
  · have q' : (ds.map some ++ List.replicate (N.length - ds.length) none)[k]? = some (some d) := q
    have l := i.length
    by_cases hk : k < ds.length
    · rw [List.getElem?_append_left (by simpa using hk), List.getElem?_map] at q'
      cases e1 : ds[k]? with
      | none =>
        rw [e1] at q'
        cases q'
      | some d' =>
        rw [e1] at q'
        cases q'
        obtain ⟨v, h1, h2⟩ := i.get e1
        refine ⟨v, ?_, h2⟩
        unfold L2.start
        rw [List.getElem?_append_left (by simp; omega), List.getElem?_map, h1] <;> rfl
    · rw [List.getElem?_append_right (by simp; omega)] at q'
      rw [List.getElem?_replicate] at q'
      split at q' <;> cases q'
/-- a body's end, with all cells that it made -/
theorem B.leaveX (b : B K cl ⟨F, H, ca⟩ F' H' ca' σ' s') : Af K cl F H ca F' H' ca' s'.ce := ⟨b.fh, b.exF, b.keep, b.free, b.hcl, b.cel, b.pre, b.newc⟩
/-- a body's end, told by its caller's cells -/
theorem B.leave {ce : List Cell} (c : CeOk K cl F H ca ce) (b : B K cl ⟨F, H, ca⟩ F' H' ca' σ' s') {junk : List Cell} (hs : s'.ce = ce' ++ junk) (hl : ce'.length = ce.length) (hlow : ∀ (j : Nat) (x : Cell), ce'[j]? = some x → ce[j]? = some x ∨ lowC ce.length x = true) :
    Af K cl F H ca F' H' ca ce' := by
  refine ⟨b.fh, b.exF, b.keep, b.free, b.hcl, ⟨by rw [hl]; exact c.1, c.2.1, fun j a x h1 h2 => ?_⟩, Pre.refl ca, fun _ q => .inl q⟩
  have h3 : s'.ce[j]? = some x := by
    rw [hs, List.getElem?_append_left (List.getElem?_eq_some_iff.mp h2).1]
    exact h2
  have z := b.cel.2.2 j a x (b.pre j a h1) h3
  refine z.down b.pre ?_
  rcases hlow j x h2 with w | w
  · exact (c.2.2 j a x h1 w).low
  · rw [c.1]
    exact w
end

/-! ### a def by its function on data -/
inductive FR where
  | ok (d : D) (ce : List Cell)
  | nl (xs : List D) (ce : List Cell)
  | ni (c : Nat) (fs : List (Str × D)) (ce : List Cell)
  | er (x : Xc) (ce : List Cell)
  | no
abbrev Fn := List D → List Cell → FR
section
variable (K : PySem.W.Frag) (cl : Cl)
def spK (F H : Hp) (ca : List Addr) (Q : VK) (E : XK) : FR → Prop
  | .ok d ce' => ∀ v F' H' ca', Af K cl F H ca F' H' ca' ce' → Is K cl F' ca' v d → Q v H'
  | .nl xs ce' => ∀ a vs F' H' ca', Af K cl F H ca F' H' ca' ce' → H' a = some (.lst vs) → IsL K cl F' ca' vs xs → F' a = none → a ∉ ca' → H a = none → Q (.ref a) H'
  | .ni c fs ce' => ∀ a dx vs F' H', Af K cl F H ca F' H' ca ce' → H' a = some (.ins (cl c) dx vs) → IsF K cl F' ca vs fs → F' a = none → a ∉ ca → H a = none → Q (.ref a) H'
  | .er x ce' => ∀ cls dd F' H', Af K cl F H ca F' H' ca ce' → XOk K cl F' H' ca cls dd x → E cls dd H'
  | .no => False
/-- the promise of a def of n parameters that does what m says of data -/
def spD (n : Nat) (m : Fn) : Sp := fun vs H Q E => vs.length = n ∧ ∃ F ca ce ds, Ex F H ∧ CeOk K cl F H ca ce ∧ IsL K cl F ca vs ds ∧ spK K cl F H ca Q E (m ds ce)
end
/-- a body does what the function says: from the arguments ds and the cells ce -/
def initS (n : Nat) (ds : List D) (ce : List Cell) : S := ⟨ds.map some ++ List.replicate (n - ds.length) none, ce, ce.length⟩
structure Tail (ce ce' : List Cell) (s : S) : Prop where
  ex : ∃ junk, s.ce = ce' ++ junk
  len : ce'.length = ce.length
  low : ∀ (j : Nat) (x : Cell), ce'[j]? = some x → ce[j]? = some x ∨ lowC ce.length x = true
def DoesK (ce : List Cell) (o : O) : FR → Prop
  | .ok d ce' => (∃ s, o = .rt d s ∧ low ce.length d = true ∧ Tail ce ce' s) ∨ (d = .non ∧ ∃ s, o = .nx s ∧ Tail ce ce' s) ∨ (∃ s, o = .rt d s ∧ s.ce = ce')
  | .nl xs ce' => (∃ s, o = .rl xs s ∧ lowL ce.length xs = true ∧ Tail ce ce' s) ∨ (∃ s, o = .rl xs s ∧ s.ce = ce')
  | .ni c fs ce' => ∃ s, o = .ri c fs s ∧ lowF ce.length fs = true ∧ Tail ce ce' s
  | .er x ce' => ∃ s, o = .er x s ∧ lowF ce.length x.fs = true ∧ Tail ce ce' s
  | .no => True
def Does (n : Nat) (b : DS) (m : Fn) : Prop := ∀ ds ce, ds.length ≤ n → DoesK ce (b (initS n ds ce)) (m ds ce)
/-- nothing of the caller's has changed -/
theorem Tail.same {ce : List Cell} {s : S} {junk : List Cell} (h : s.ce = ce ++ junk) : Tail ce ce s := ⟨⟨junk, h⟩, rfl, fun j x q => .inl q⟩
theorem Tail.id {ce : List Cell} {s : S} (h : s.ce = ce) : Tail ce ce s := ⟨⟨[], by rw [h, List.append_nil]⟩, rfl, fun j x q => .inl q⟩
/-- one cell has -/
theorem Tail.one {ce : List Cell} {s : S} {junk : List Cell} {j : Nat} {c : Cell} (h : s.ce = ce.set j c ++ junk) (hc : lowC ce.length c = true) : Tail ce (ce.set j c) s := by
  refine ⟨⟨junk, h⟩, by rw [List.length_set], fun i x q => ?_⟩
  by_cases z : i = j
  · subst z
    by_cases hi : i < ce.length
    · rw [List.getElem?_set_self hi] at q
      cases q
      exact .inr hc
    · rw [List.getElem?_eq_none (by rw [List.length_set]; omega)] at q
      cases q
  · rw [List.getElem?_set_ne (Ne.symm z)] at q
    exact .inl q

section
variable {X : Cx} {cl : Cl}
/-- the body's reading from the promise -/
theorem body_ok {n : Nat} {m : Fn} {b : DS} {N : List Str} {vs : List V} {H : Hp} {Q : VK} {E : XK} (hn : n ≤ N.length) (hd : Does N.length b m) (h : spD X.K cl n m vs H Q E) :
    ∃ e, rdS X.K cl e (fun cls d _ H => E cls d H) b { nx := fun _ H' => Q .non H', rt := Q } (L2.start N vs) H := by
  obtain ⟨hl, F, ca, ce, ds, x, c, i, q⟩ := h
  refine ⟨⟨F, H, ca⟩, F, ca, _, B.enter x c i (N := N) (by omega), ?_⟩
  have l := i.length
  have z := hd ds ce (by omega)
  unfold initS at z
  cases e1 : m ds ce with
  | ok d ce' =>
    rw [e1] at z q
    have q' : ∀ v F' H' ca', Af X.K cl F H ca F' H' ca' ce' → Is X.K cl F' ca' v d → Q v H' := q
    rcases z with ⟨s, e2, hw, t⟩ | ⟨rfl, s, e2, t⟩ | ⟨s, e2, t⟩
    · rw [e2]
      intro v σ' F' H' ca' b' x' p' i'
      obtain ⟨junk, hj⟩ := t.ex
      exact q' v F' H' ca (b'.leave c hj t.len t.low) (i'.down p' (by rw [c.1]; exact hw))
    · rw [e2]
      intro σ' F' H' ca' b' x' p'
      obtain ⟨junk, hj⟩ := t.ex
      exact q' .non F' H' ca (b'.leave c hj t.len t.low) .non
    · rw [e2]
      subst t
      intro v σ' F' H' ca' b' x' p' i'
      exact q' v F' H' ca' b'.leaveX i'
  | nl xs ce' =>
    rw [e1] at z q
    have q' : ∀ a vs F' H' ca', Af X.K cl F H ca F' H' ca' ce' → H' a = some (.lst vs) → IsL X.K cl F' ca' vs xs → F' a = none → a ∉ ca' → H a = none → Q (.ref a) H' := q
    rcases z with ⟨s, e2, hw, t⟩ | ⟨s, e2, t⟩
    case inr =>
      rw [e2]
      subst t
      intro v σ' F' H' ca' b' x' p' nl
      obtain ⟨a, ws, rfl, ha, hi, hF, hc, h0⟩ := nl
      exact q' a ws F' H' ca' b'.leaveX ha hi hF hc h0
    rw [e2]
    intro v σ' F' H' ca' b' x' p' nl
    obtain ⟨a, ws, rfl, ha, hi, hF, hc, h0⟩ := nl
    obtain ⟨junk, hj⟩ := t.ex
    exact q' a ws F' H' ca (b'.leave c hj t.len t.low) ha (hi.down p' (by rw [c.1]; exact hw)) hF (fun hm => by
      obtain ⟨j, hj⟩ := List.mem_iff_getElem?.mp hm
      exact hc (List.mem_of_getElem? (p' j a hj))) h0
  | ni k fs ce' =>
    rw [e1] at z q
    have q' : ∀ a dx vs F' H', Af X.K cl F H ca F' H' ca ce' → H' a = some (.ins (cl k) dx vs) → IsF X.K cl F' ca vs fs → F' a = none → a ∉ ca → H a = none → Q (.ref a) H' := q
    obtain ⟨s, e2, hw, t⟩ := z
    rw [e2]
    intro v σ' F' H' ca' b' x' p' nl
    obtain ⟨a, dx, ws, rfl, ha, hi, hF, hc, h0⟩ := nl
    obtain ⟨junk, hj⟩ := t.ex
    exact q' a dx ws F' H' (b'.leave c hj t.len t.low) ha (hi.down p' (by rw [c.1]; exact hw)) hF (fun hm => by
      obtain ⟨j, hj⟩ := List.mem_iff_getElem?.mp hm
      exact hc (List.mem_of_getElem? (p' j a hj))) h0
  | er xc ce' =>
    rw [e1] at z q
    have q' : ∀ cls dd F' H', Af X.K cl F H ca F' H' ca ce' → XOk X.K cl F' H' ca cls dd xc → E cls dd H' := q
    obtain ⟨s, e2, hw, t⟩ := z
    rw [e2]
    intro cls dd σ' F' H' ca' b' x0 p0 xo
    obtain ⟨junk, hj⟩ := t.ex
    have p' := b'.pre
    refine q' cls dd F' H' (b'.leave c hj t.len t.low) ⟨xo.1, ?_⟩
    have z := xo.2
    cases e3 : xc.fs with
    | nil =>
      rw [e3] at z
      exact z
    | cons f fs =>
      rw [e3] at z hw
      obtain ⟨a, vs, h1, h2, h3⟩ := z
      exact ⟨a, vs, h1, h2, h3.down p' (by rw [c.1]; exact hw)⟩
  | no =>
    rw [e1] at q
    exact False.elim q
end

/-! ### calls -/
def frK (s : S) : FR → R
  | .ok d ce => .ok d ⟨s.sl, ce, s.n0⟩
  | .nl xs ce => .nl xs ⟨s.sl, ce, s.n0⟩
  | .ni c fs ce => .ni c fs ⟨s.sl, ce, s.n0⟩
  | .er x ce => .er x ⟨s.sl, ce, s.n0⟩
  | .no => .no
def dCall (n : Nat) (m : Fn) (g : DA) : DE := fun s => bindAR (g s) fun ds s1 => if ds.length = n then frK s1 (m ds s1.ce) else .no
section
variable {X : Cx} {cl : Cl} {e : Ent} {W : WX} {ga : DA} {F H : Hp} {ca : List Addr} {σ : L2.St} {s : S} {Q : VK}
theorem sp_of {n : Nat} {m : Fn} {vs : List V} {ds : List D} (b : Bx X cl e F H ca σ s) (hl : vs.length = n) (i : IsL X.K cl F ca vs ds) (q : rdK X.K cl e W σ F ca Q (frK s (m ds s.ce))) : spD X.K cl n m vs H Q (WE W σ) := by
  refine ⟨hl, F, ca, s.ce, ds, b.fh, b.cel, i, ?_⟩
  cases e1 : m ds s.ce with
  | ok d ce' =>
    rw [e1] at q
    exact fun v F' H' ca' a i' => q v F' H' ca' (b.after a) a.ex a.pre i'
  | nl xs ce' =>
    rw [e1] at q
    exact fun a vs F' H' ca' af h1 h2 h3 h4 h5 => q (.ref a) F' H' ca' (b.after af) af.ex af.pre ⟨a, vs, rfl, h1, h2, h3, h4, b.notH0 h5⟩
  | ni c fs ce' =>
    rw [e1] at q
    exact fun a dx vs F' H' af h1 h2 h3 h4 h5 => q (.ref a) F' H' ca (b.after af) af.ex (Pre.refl ca) ⟨a, dx, vs, rfl, h1, h2, h3, h4, b.notH0 h5⟩
  | er x ce' =>
    rw [e1] at q
    exact fun cls dd F' H' af xo => q cls dd F' H' ca (b.after af) af.ex (Pre.refl ca) xo
  | no =>
    rw [e1] at q
    exact q
/-- f(..), f a def of the text -/
theorem rd_call {n : Nat} {m : Fn} (h : rd X.K cl e W (dCall n m ga) σ H Q) : rdA X.K cl e W ga σ H fun vs H1 => spD X.K cl n m vs H1 Q (WE W σ) := by
  obtain ⟨F, ca, s, b, q⟩ := h
  refine use_rdA b q fun vs ds s1 F1 H1 ca1 b1 i1 x1 p1 q1 => ?_
  by_cases hn : ds.length = n
  · rw [if_pos hn] at q1
    exact sp_of b1 (i1.length.trans hn) i1 q1
  · rw [if_neg hn] at q1
    exact False.elim q1
theorem d_call {n : Nat} {m : Fn} {k : Nat} {f : Addr} {fd : FuncData} {ps : List Str} {x : Str} {p pos : Pos} {a : Expr} {es : List Expr} (Fo : FnOk X.prog X.w X.K X.mg X.base (L2.CX X.prog X.w) k f fd ps (spD X.K cl n m)) (hr : Room k X.A) (hg : Gl X x) (hm : X.mg x = some (.ref f)) (hk : PySem.W.keepIn X.K (.ref f) = true)
    (hb : Binds X.K fd ps []) (tk : Takes X W) (ha : PAd X cl e W (a :: es) ga) (hdb : (x == ("__debug__" : Str)) = false := by decide) (he : starEach (a :: es) X.env = (false, eval a X.env) :: starEach es X.env := by rfl) (hpl : (backTo pos (starEach es X.env)).any (·.1) = false := by rfl) :
    PEd X cl e W (.Call (.Name x p) (a :: es) [] pos) (dCall n m ga) :=
  pe_w (pe_callS Fo hr hg hm hk hb (fun σ => passAt tk σ) ha hdb he hpl) fun _ _ _ q => rd_call q
end

/-! ### statements -/
def bindO : R → (D → S → O) → O
  | .ok d s, k => k d s
  | .er x s, _ => .er x s
  | _, _ => .no
def bindBO : RB → (Bool → S → O) → O
  | .ok d s, k => k d s
  | .er x s, _ => .er x s
  | _, _ => .no
def sSet (i : Nat) (f : DE) : DS := fun s => bindO (f s) fun d s1 => .nx ⟨s1.sl.set i (some d), s1.ce, s1.n0⟩
def seqK : O → DS → O
  | .nx s, g => g s
  | r, _ => r
def sSeq (f g : DS) : DS := fun s => seqK (f s) g
def sNext : DS := fun s => .nx s
def sBrk : DS := fun s => .bk s
def sCont : DS := fun s => .ct s
def sIf (c : DB) (f g : DS) : DS := fun s => bindBO (c s) fun b s1 => if b = true then f s1 else g s1
def retK : R → O
  | .ok d s => .rt d s
  | .nl xs s => .rl xs s
  | .ni c fs s => .ri c fs s
  | .er x s => .er x s
  | .no => .no
def sRet (f : DE) : DS := fun s => retK (f s)
def dropK' : R → O
  | .ok _ s => .nx s
  | .nl _ s => .nx s
  | .ni _ _ s => .nx s
  | .er x s => .er x s
  | .no => .no
def sDrop (f : DE) : DS := fun s => dropK' (f s)
section
variable {X : Cx} {cl : Cl} {e : Ent} {W : WX} {st : Stmt} {x : Expr} {f : DE} {rest : List Stmt} {sa sb : DS} {tb : DB} {pos : Pos}
theorem useS_rd {F H : Hp} {ca : List Addr} {σ : L2.St} {s : S} {Dn : Ends} {Z : VK} {k : D → S → O} (b : Bx X cl e F H ca σ s) (h : rdSK X.K cl e W F ca Dn (bindO (f s) k))
    (go : ∀ v d s1 F1 H1 ca1, Bx X cl e F1 H1 ca1 σ s1 → Is X.K cl F1 ca1 v d → Ex F F1 → Pre ca ca1 → rdSK X.K cl e W F1 ca1 Dn (k d s1) → Z v H1) : rd X.K cl e W f σ H Z := by
  refine ⟨F, ca, s, b, ?_⟩
  cases q : f s with
  | ok d s1 =>
    rw [q] at h
    exact fun v F1 H1 ca1 b1 x p i => go v d s1 F1 H1 ca1 b1 i x p (h.back x p)
  | er x s1 =>
    rw [q] at h
    exact fun cls dd F' H' ca' b' x' p' xo => h cls dd σ F' H' ca' b' x' p' xo
  | _ =>
    rw [q] at h
    exact False.elim h
theorem useS_rdB {F H : Hp} {ca : List Addr} {σ : L2.St} {s : S} {Dn : Ends} {Z : Bool → Hp → Prop} {k : Bool → S → O} (b : Bx X cl e F H ca σ s) (h : rdSK X.K cl e W F ca Dn (bindBO (tb s) k))
    (go : ∀ d s1 F1 H1 ca1, Bx X cl e F1 H1 ca1 σ s1 → Ex F F1 → Pre ca ca1 → rdSK X.K cl e W F1 ca1 Dn (k d s1) → Z d H1) : rdB X.K cl e W tb σ H Z := by
  refine ⟨F, ca, s, b, ?_⟩
  cases q : tb s with
  | ok d s1 =>
    rw [q] at h
    exact fun F1 H1 ca1 b1 x p => go d s1 F1 H1 ca1 b1 x p (h.back x p)
  | er x s1 =>
    rw [q] at h
    exact fun cls dd F' H' ca' b' x' p' xo => h cls dd σ F' H' ca' b' x' p' xo
  | no =>
    rw [q] at h
    exact False.elim h
theorem s_set {i : Nat} (hst : PS X st (tAsg (rd X.K cl e W f) (gName i))) : PSd X cl e W st (sSet i f) := ps_w hst fun D σ H ⟨F, ca, s, b, q⟩ => by
  refine useS_rd b q fun v d s1 F1 H1 ca1 b1 i1 x1 p1 q1 => ?_
  exact q1 _ F1 H1 ca1 (b1.put i1) (Ex.refl F1) (Pre.refl ca1)
theorem s_nil : PSsd X cl e W [] sNext := pss_w pss_nil fun D σ H ⟨F, ca, s, b, q⟩ => q σ F H ca b (Ex.refl F) (Pre.refl ca)
theorem s_one (h1 : PSd X cl e W st sa) : PSsd X cl e W [st] sa := pss_one h1
theorem s_cons (h1 : PSd X cl e W st sa) (h2 : PSsd X cl e W rest sb) : PSsd X cl e W (st :: rest) (sSeq sa sb) := pss_w (pss_cons h1 h2) fun D σ H ⟨F, ca, s, b, q⟩ => by
  refine ⟨F, ca, s, b, ?_⟩
  unfold sSeq at q
  cases e1 : sa s with
  | nx s1 =>
    rw [e1] at q
    exact fun σ' F' H' ca' b' x p => ⟨F', ca', s1, b', rdSK.back x p q⟩
  | bk s1 =>
    rw [e1] at q
    exact q
  | ct s1 =>
    rw [e1] at q
    exact q
  | rt d s1 =>
    rw [e1] at q
    exact q
  | rl d s1 =>
    rw [e1] at q
    exact q
  | ri c d s1 =>
    rw [e1] at q
    exact q
  | er x s1 =>
    rw [e1] at q
    exact q
  | no =>
    rw [e1] at q
    exact q
theorem s_break : PSd X cl e W (.Break pos) sBrk := ps_w ps_break fun D σ H ⟨F, ca, s, b, q⟩ => q σ F H ca b (Ex.refl F) (Pre.refl ca)
theorem s_continue : PSd X cl e W (.Continue pos) sCont := ps_w ps_continue fun D σ H ⟨F, ca, s, b, q⟩ => q σ F H ca b (Ex.refl F) (Pre.refl ca)
theorem s_pass : PSd X cl e W (.Pass pos) sNext := ps_w ps_pass fun D σ H ⟨F, ca, s, b, q⟩ => q σ F H ca b (Ex.refl F) (Pre.refl ca)
theorem s_if {c : Expr} {a b : List Stmt} (hc : PTd X cl e W c tb) (ha : PSsd X cl e W a sa) (hb : PSsd X cl e W b sb) : PSd X cl e W (.If c a b pos) (sIf tb sa sb) :=
  ps_w (ps_if hc ha hb) fun D σ H ⟨F, ca, s, b, q⟩ => by
    refine useS_rdB b q fun d s1 F1 H1 ca1 b1 x1 p1 q1 => ?_
    cases d with
    | true => exact ⟨F1, ca1, s1, b1, q1⟩
    | false => exact ⟨F1, ca1, s1, b1, q1⟩
theorem s_ret (h : PEd X cl e W x f) : PSd X cl e W (.Return (some x) pos) (sRet f) := ps_w (ps_ret h) fun D σ H ⟨F, ca, s, b, q⟩ => by
  refine ⟨F, ca, s, b, ?_⟩
  unfold sRet at q
  cases e1 : f s with
  | ok d s1 =>
    rw [e1] at q
    exact fun v F' H' ca' b' x p i => q v σ F' H' ca' b' x p i
  | nl d s1 =>
    rw [e1] at q
    exact fun v F' H' ca' b' x p i => q v σ F' H' ca' b' x p i
  | ni c d s1 =>
    rw [e1] at q
    exact fun v F' H' ca' b' x p i => q v σ F' H' ca' b' x p i
  | er x s1 =>
    rw [e1] at q
    exact fun cls dd F' H' ca' b' x' p' xo => q cls dd σ F' H' ca' b' x' p' xo
  | no =>
    rw [e1] at q
    exact q
theorem s_drop (hst : PS X st (tDrop (rd X.K cl e W f))) : PSd X cl e W st (sDrop f) := ps_w hst fun D σ H ⟨F, ca, s, b, q⟩ => by
  refine ⟨F, ca, s, b, ?_⟩
  unfold sDrop at q
  cases e1 : f s with
  | ok d s1 =>
    rw [e1] at q
    exact fun v F' H' ca' b' x p i => q σ F' H' ca' b' x p
  | nl d s1 =>
    rw [e1] at q
    exact fun v F' H' ca' b' x p i => q σ F' H' ca' b' x p
  | ni c d s1 =>
    rw [e1] at q
    exact fun v F' H' ca' b' x p i => q σ F' H' ca' b' x p
  | er x s1 =>
    rw [e1] at q
    exact fun cls dd F' H' ca' b' x' p' xo => q cls dd σ F' H' ca' b' x' p' xo
  | no =>
    rw [e1] at q
    exact q
end

/-! ### methods of lists, items stored -/
inductive Mo where
  | w (j : Nat) (c : Cell) (d : D)
  | v (d : D)
  | l (xs : List D)
  | no
def moK (s : S) : Mo → R
  | .w j c d => .ok d ⟨s.sl, s.ce.set j c, s.n0⟩
  | .v d => .ok d s
  | .l xs => .nl xs s
  | .no => .no
/-- o.m(..) of a list (lk: the list stands) -/
def dMt (lk : List Cell → D → Bool) (m : List Cell → D → List D → Mo) (f : DE) (g : DA) : DE := fun s => bindR (f s) fun d s1 => if lk s1.ce d = true then bindAR (g s1) fun ds s2 => moK s2 (m s2.ce d ds) else .no
def isL (ce : List Cell) (d : D) : Bool := (look ce d).isSome
def isS (_ : List Cell) : D → Bool
  | .str _ => true
  | _ => false
def MoK (X : Cx) (cl : Cl) (e : Ent) (F H : Hp) (ca : List Addr) (σ : L2.St) (s : S) (k : VK → Prop) : Mo → Prop
  | .w j c d => ∀ Q : VK, (∀ v H', Bx X cl e F H' ca σ ⟨s.sl, s.ce.set j c, s.n0⟩ → Is X.K cl F ca v d → Q v H') → k Q
  | .v d => ∀ Q : VK, (∀ v H', Bx X cl e F H' ca σ s → Is X.K cl F ca v d → Q v H') → k Q
  | .l xs => ∀ Q : VK, (∀ p vs, H p = none → IsL X.K cl F ca vs xs → Q (.ref p) (upd H p (.lst vs))) → k Q
  | .no => True
def MtD (X : Cx) (cl : Cl) (e : Ent) (r : V → List V → Hp → VK → Prop) (m : List Cell → D → List D → Mo) : Prop :=
  ∀ (F H : Hp) (ca : List Addr) (σ : L2.St) (s : S) (v : V) (d : D) (vs : List V) (ds : List D), Bx X cl e F H ca σ s → Is X.K cl F ca v d → IsL X.K cl F ca vs ds → MoK X cl e F H ca σ s (fun Q => r v vs H Q) (m s.ce d ds)
section
variable {X : Cx} {cl : Cl} {e : Ent} {W : WX} {f : DE} {ga : DA} {a x : Expr} {es : List Expr}
theorem MoK.go {F H : Hp} {ca : List Addr} {σ : L2.St} {s : S} {k : VK → Prop} {p : Mo} {Q : VK} (b : Bx X cl e F H ca σ s) (h : MoK X cl e F H ca σ s k p) (q : rdK X.K cl e W σ F ca Q (moK s p)) : k Q := by
  cases p with
  | w j c d => exact h Q fun v H' b' i => q v F H' ca b' (Ex.refl F) (Pre.refl ca) i
  | v d => exact h Q fun v H' b' i => q v F H' ca b' (Ex.refl F) (Pre.refl ca) i
  | l xs => exact h Q fun p vs hp hi => q (.ref p) F _ ca (b.laid hp) (Ex.refl F) (Pre.refl ca) ⟨p, vs, rfl, upd_same, hi, b.notF hp, b.notca hp, b.notH0 hp⟩
  | no => exact False.elim q
theorem isL_ty {F H : Hp} {ca : List Addr} {σ : L2.St} {s : S} {v : V} {d : D} (b : Bx X cl e F H ca σ s) (i : Is X.K cl F ca v d) (q : isL s.ce d = true) : tyV X.K "list" v H := by
  unfold isL at q
  cases e1 : look s.ce d with
  | none =>
    rw [e1] at q
    cases q
  | some xs =>
    obtain ⟨p, vs, rfl, hl, _⟩ := look_ok b i e1
    exact .inl ⟨rfl, vs, hl⟩
theorem isS_ty {F H : Hp} {ca : List Addr} {σ : L2.St} {s : S} {v : V} {d : D} (b : Bx X cl e F H ca σ s) (i : Is X.K cl F ca v d) (q : isS s.ce d = true) : tyV X.K "str" v H := by
  cases i with
  | str z => rfl
  | _ => cases q
theorem rd_mt {T : String} {lk : List Cell → D → Bool} {r : V → List V → Hp → VK → Prop} {m : List Cell → D → List D → Mo} (ty : ∀ (F H : Hp) (ca : List Addr) (σ : L2.St) (s : S) (v : V) (d : D), Bx X cl e F H ca σ s → Is X.K cl F ca v d → lk s.ce d = true → tyV X.K T v H)
    (hm : MtD X cl e r m) {σ : L2.St} {H : Hp} {Q : VK} (q : rd X.K cl e W (dMt lk m f ga) σ H Q) : tBM X.K T r (rd X.K cl e W f) (rdA X.K cl e W ga) σ H Q := by
  obtain ⟨F, ca, s, b, q⟩ := q
  refine use_rd b q fun v d s1 F1 H1 ca1 b1 i1 x1 p1 q1 => ?_
  by_cases hz : lk s1.ce d = true
  · rw [if_pos hz] at q1
    refine ⟨ty F1 H1 ca1 σ s1 v d b1 i1 hz, ?_⟩
    refine use_rdA b1 q1 fun vs ds s2 F2 H2 ca2 b2 i2 x2 p2 q2 => ?_
    exact (hm F2 H2 ca2 σ s2 v d vs ds b2 (i1.mono x2 p2) i2).go b2 q2
  · rw [if_neg hz] at q1
    exact False.elim q1
theorem rd_mt0 {T : String} {lk : List Cell → D → Bool} {r : V → List V → Hp → VK → Prop} {m : List Cell → D → List D → Mo} (ty : ∀ (F H : Hp) (ca : List Addr) (σ : L2.St) (s : S) (v : V) (d : D), Bx X cl e F H ca σ s → Is X.K cl F ca v d → lk s.ce d = true → tyV X.K T v H)
    (hm : MtD X cl e r m) {σ : L2.St} {H : Hp} {Q : VK} (q : rd X.K cl e W (dMt lk m f aNil) σ H Q) : tBM0 X.K T r (rd X.K cl e W f) σ H Q := by
  obtain ⟨F, ca, s, b, q⟩ := q
  refine use_rd b q fun v d s1 F1 H1 ca1 b1 i1 x1 p1 q1 => ?_
  by_cases hz : lk s1.ce d = true
  · rw [if_pos hz] at q1
    exact ⟨ty F1 H1 ca1 σ s1 v d b1 i1 hz, (hm F1 H1 ca1 σ s1 v d [] [] b1 i1 .nil).go b1 q1⟩
  · rw [if_neg hz] at q1
    exact False.elim q1
/-- a list cell's write -/
theorem MoK.wr {F H : Hp} {ca : List Addr} {σ : L2.St} {s : S} {k : VK → Prop} {j : Nat} {xs' : List D} {a : Addr} {vs' : List V} {d : D} {v : V} (b : Bx X cl e F H ca σ s) (hj : ca[j]? = some a) (hF : F a = none) (hi : IsL X.K cl F ca vs' xs') (hd : Is X.K cl F ca v d)
    (h : ∀ Q : VK, Q v (upd H a (.lst vs')) → k Q) : MoK X cl e F H ca σ s k (.w j (.lst xs') d) := fun Q q => h Q (q v _ (b.write hj hF ⟨hF, vs', upd_same, hi⟩) hd)
def mApp (ce : List Cell) : D → List D → Mo
  | .rf j, [d] => match cellL ce[j]? with
    | some xs => if xs.length < 100000 then .w j (.lst (xs ++ [d])) .non else .no
    | none => .no
  | _, _ => .no
theorem cellL_eq {o : Option Cell} {xs : List D} (h : cellL o = some xs) : o = some (.lst xs) := by
  cases o with
  | none => cases h
  | some c =>
    cases c with
    | lst ys =>
      cases h
      rfl
    | _ => cases h
theorem MoK.ite {F H : Hp} {ca : List Addr} {σ : L2.St} {s : S} {k : VK → Prop} {c : Prop} [Decidable c] {p : Mo} (h : c → MoK X cl e F H ca σ s k p) : MoK X cl e F H ca σ s k (if c then p else .no) := by
  by_cases z : c
  · rw [if_pos z]
    exact h z
  · rw [if_neg z]
    trivial
theorem md_app : MtD X cl e rAppend mApp := fun F H ca σ s v d vs ds b i is => by
  cases d with
  | rf j =>
    cases is with
    | nil => trivial
    | cons i1 t =>
      cases t with
      | cons _ _ => trivial
      | nil =>
        show MoK X cl e F H ca σ s _ (match cellL s.ce[j]? with
          | some xs => if xs.length < 100000 then .w j (.lst (xs ++ [_])) .non else .no
          | none => .no)
        cases e1 : cellL s.ce[j]? with
        | none => trivial
        | some xs =>
          obtain ⟨a, ws, rfl, ha, hH, hi, hF⟩ := cell_ok b i (cellL_eq e1)
          refine .ite fun hz => .wr b ha hF (hi.app (.one i1)) .non fun Q q => ⟨a, ws, _, rfl, rfl, hH, ?_, q⟩
          rw [hi.length]
          exact Nat.lt_of_lt_of_le hz (by decide)
  | _ => cases is <;> trivial
end
end Dv

set_option maxRecDepth 100000
set_option maxHeartbeats 4000000
/-! targets, loops, comprehensions -/
namespace Dv
open PySem PySem.Spec PyProof.Rows L2

abbrev DT := D → S → Option S
def tgN (i : Nat) : DT := fun d s => some ⟨s.sl.set i (some d), s.ce, s.n0⟩
def tgs : List DT → List D → S → Option S
  | [], [], s => some s
  | t :: ts, d :: ds, s => (t d s).bind fun s1 => tgs ts ds s1
  | _, _, _ => none
def tgT (ts : List DT) : DT := fun d s => match d with
  | .tup ds => tgs ts ds s
  | _ => none
section
variable {X : Cx} {cl : Cl}
def TgD (X : Cx) (cl : Cl) (g : TG) (t : DT) : Prop := ∀ (e : Ent) (F H : Hp) (ca : List Addr) (σ : L2.St) (s s1 : S) (v : V) (d : D), Bx X cl e F H ca σ s → Is X.K cl F ca v d → t d s = some s1 →
  ∀ Q : L2.St → Hp → Prop, (∀ σ', Bx X cl e F H ca σ' s1 → Q σ' H) → g v σ H Q
def TgsD (X : Cx) (cl : Cl) (g : TGs) (ts : List DT) : Prop := ∀ (e : Ent) (F H : Hp) (ca : List Addr) (σ : L2.St) (s s1 : S) (vs : List V) (ds : List D), Bx X cl e F H ca σ s → IsL X.K cl F ca vs ds → tgs ts ds s = some s1 →
  ∀ Q : L2.St → Hp → Prop, (∀ σ', Bx X cl e F H ca σ' s1 → Q σ' H) → g vs σ H Q
theorem td_name {i : Nat} : TgD X cl (gName i) (tgN i) := fun e F H ca σ s s1 v d b h q Q k => by
  cases q
  exact k _ (b.put h)
theorem tds_nil : TgsD X cl gNil [] := fun e F H ca σ s s1 vs ds b h q Q k => by
  cases ds with
  | nil =>
    cases h
    cases q
    exact ⟨rfl, k σ b⟩
  | cons _ _ => cases q
theorem tds_cons {g : TG} {gs : TGs} {t : DT} {ts : List DT} (h1 : TgD X cl g t) (h2 : TgsD X cl gs ts) : TgsD X cl (gCons g gs) (t :: ts) := fun e F H ca σ s s1 vs ds b h q Q k => by
  cases ds with
  | nil => cases q
  | cons d ds =>
    cases h with
    | cons i it =>
      have q' : (t d s).bind (fun s1 => tgs ts ds s1) = some s1 := q
      cases e1 : t d s with
      | none =>
        rw [e1] at q'
        cases q'
      | some s2 =>
        rw [e1] at q'
        exact ⟨_, _, rfl, h1 e F H ca σ s s2 _ d b i e1 _ fun σ' b' => h2 e F H ca σ' s2 s1 _ ds b' it q' Q k⟩
theorem tgs_len : ∀ {ts : List DT} {ds : List D} {s s1 : S}, tgs ts ds s = some s1 → ds.length = ts.length
  | [], [], _, _, _ => rfl
  | t :: ts, d :: ds, s, s1, q => by
    have q' : (t d s).bind (fun s1 => tgs ts ds s1) = some s1 := q
    cases e1 : t d s with
    | none =>
      rw [e1] at q'
      cases q'
    | some s2 =>
      rw [e1] at q'
      rw [List.length_cons, List.length_cons, tgs_len (ts := ts) q']
  | [], _ :: _, _, _, q => by cases q
  | _ :: _, [], _, _, q => by cases q
theorem td_tup {gs : TGs} {ts : List DT} {n : Nat} (h : TgsD X cl gs ts) (hn : ts.length = n) : TgD X cl (gTup X.K n gs) (tgT ts) := fun e F H ca σ s s1 v d b i q Q k => by
  cases i with
  | tup hl hi =>
    have q' : tgs ts _ s = some s1 := q
    exact ⟨_, _, rfl, ex_t b.fh hl, by rw [hi.length, tgs_len q', hn], h e F H ca σ s s1 _ _ b hi q' Q k⟩
  | _ => cases q
end
/-- target = value -/
def tgK (s : S) : Option S → O
  | some s1 => .nx s1
  | none => .no
def sAsg (t : DT) (f : DE) : DS := fun s => bindO (f s) fun d s1 => tgK s1 (t d s1)
section
variable {X : Cx} {cl : Cl} {e : Ent} {W : WX} {st : Stmt} {f : DE} {g : TG} {t : DT}
theorem s_asg (ht : TgD X cl g t) (hst : PS X st (tAsg (rd X.K cl e W f) g)) : PSd X cl e W st (sAsg t f) := ps_w hst fun D σ H ⟨F, ca, s, b, q⟩ => by
  refine useS_rd b q fun v d s1 F1 H1 ca1 b1 i1 x1 p1 q1 => ?_
  cases e1 : t d s1 with
  | none =>
    rw [e1] at q1
    exact False.elim q1
  | some s2 =>
    rw [e1] at q1
    exact ht e F1 H1 ca1 σ s1 s2 v d b1 i1 e1 _ fun σ' b' => q1 σ' F1 H1 ca1 b' (Ex.refl F1) (Pre.refl ca1)
end

/-! ### for -/
def loopK : O → (S → O) → O
  | .nx s, k => k s
  | .ct s, k => k s
  | .bk s, _ => .nx s
  | r, _ => r
def tgO (k : S → O) : Option S → O
  | some s => k s
  | none => .no
def loop (t : DT) (body : DS) : List D → S → O
  | [], s => .nx s
  | d :: ds, s => tgO (fun s1 => loopK (body s1) (loop t body ds)) (t d s)
/-- what is walked: the items known at the start -/
inductive RI where
  | ok (xs : List D) (s : S)
  | er (x : Xc) (s : S)
  | no
abbrev DI := S → RI
def bindIO : RI → (List D → S → O) → O
  | .ok d s, k => k d s
  | .er x s, _ => .er x s
  | .no, _ => .no
def bindIR : RI → (List D → S → R) → R
  | .ok d s, k => k d s
  | .er x s, _ => .er x s
  | .no, _ => .no
def sFor (it : DI) (t : DT) (body : DS) : DS := fun s => bindIO (it s) fun xs s1 => loop t body xs s1
section
variable {X : Cx} {cl : Cl} {e : Ent} {W : WX} {g : TG} {t : DT} {body : DS}
/-- between two turns: what is left to do -/
def Mid (X : Cx) (cl : Cl) (e : Ent) (W : WX) (t : DT) (body : DS) (Dn : Ends) (F0 : Hp) (ca0 : List Addr) (ds : List D) (σ : L2.St) (H : Hp) : Prop :=
  ∃ F ca s, Bx X cl e F H ca σ s ∧ Ex F0 F ∧ Pre ca0 ca ∧ rdSK X.K cl e W F ca Dn (loop t body ds s)
theorem mid_turn {Dn : Ends} {F0 F H : Hp} {ca0 ca : List Addr} {σ : L2.St} {s : S} {v : V} {d : D} {ds : List D} (ht : TgD X cl g t) (b : Bx X cl e F H ca σ s) (x : Ex F0 F) (p : Pre ca0 ca) (i : Is X.K cl F ca v d)
    (q : rdSK X.K cl e W F ca Dn (loop t body (d :: ds) s)) :
    g v σ H fun σ2 H2 => rdS X.K cl e W body { Dn with nx := Mid X cl e W t body Dn F0 ca0 ds, ct := Mid X cl e W t body Dn F0 ca0 ds, bk := Dn.nx } σ2 H2 := by
  have q' : rdSK X.K cl e W F ca Dn (tgO (fun s1 => loopK (body s1) (loop t body ds)) (t d s)) := q
  cases e1 : t d s with
  | none =>
    rw [e1] at q'
    exact False.elim q'
  | some s1 =>
    rw [e1] at q'
    refine ht e F H ca σ s s1 v d b i e1 _ fun σ' b' => ⟨F, ca, s1, b', ?_⟩
    have q2 : rdSK X.K cl e W F ca Dn (loopK (body s1) (loop t body ds)) := q'
    cases e2 : body s1 with
    | nx s2 =>
      rw [e2] at q2
      exact fun σ2 F2 H2 ca2 b2 x2 p2 => ⟨F2, ca2, s2, b2, x.trans x2, p.trans p2, rdSK.back x2 p2 q2⟩
    | ct s2 =>
      rw [e2] at q2
      exact fun σ2 F2 H2 ca2 b2 x2 p2 => ⟨F2, ca2, s2, b2, x.trans x2, p.trans p2, rdSK.back x2 p2 q2⟩
    | bk s2 =>
      rw [e2] at q2
      exact q2
    | rt d s2 =>
      rw [e2] at q2
      exact q2
    | rl d s2 =>
      rw [e2] at q2
      exact q2
    | ri c d s2 =>
      rw [e2] at q2
      exact q2
    | er xc s2 =>
      rw [e2] at q2
      exact q2
    | no =>
      rw [e2] at q2
      exact q2
theorem mid_end {Dn : Ends} {F0 H : Hp} {ca0 : List Addr} {σ : L2.St} (m : Mid X cl e W t body Dn F0 ca0 [] σ H) : Dn.nx σ H := by
  obtain ⟨F, ca, s, b, x, p, q⟩ := m
  exact q σ F H ca b (Ex.refl F) (Pre.refl ca)

/-- what a walked thing's reading is, by the items -/
structure ItD (X : Cx) (cl : Cl) (e : Ent) (W : WX) (wi : TI) (it : DI) : Prop where
  run : ∀ (F H : Hp) (ca : List Addr) (σ : L2.St) (s : S) (g : TG) (t : DT) (body : DS) (Dn : Ends), Bx X cl e F H ca σ s → TgD X cl g t → rdSK X.K cl e W F ca Dn (bindIO (it s) fun xs s1 => loop t body xs s1) → tFor wi g (rdS X.K cl e W body) Dn σ H
theorem s_for {wi : TI} {it : DI} {iter tgx : Expr} {bd : List Stmt} {pos : Pos} (hi : ItD X cl e W wi it) (hg : TgD X cl g t) (hst : PS X (.For tgx iter bd [] pos) (tFor wi g (rdS X.K cl e W body))) : PSd X cl e W (.For tgx iter bd [] pos) (sFor it t body) :=
  ps_w hst fun D σ H ⟨F, ca, s, b, q⟩ => hi.run F H ca σ s g t body D b hg q

/-! the walked things -/
def itK : R → RI
  | .ok (.lst xs) s => .ok xs s
  | .ok (.ro xs) s => .ok xs s
  | .nl xs s => .ok xs s
  | .er x s => .er x s
  | _ => .no
/-- a list (data, or just made) -/
def iL (f : DE) : DI := fun s => itK (f s)
def itT : R → RI
  | .ok (.tup xs) s => .ok xs s
  | .er x s => .er x s
  | _ => .no
def iT (f : DE) : DI := fun s => itT (f s)
theorem isL_len_of {F : Hp} {ca : List Addr} {vs : List V} {ds : List D} (h : IsL X.K cl F ca vs ds) {i : Nat} {v : V} (hv : vs[i]? = some v) : ∃ d, ds.drop i = d :: ds.drop (i + 1) ∧ Is X.K cl F ca v d := by
  obtain ⟨d, h1, h2⟩ := h.getV hv
  obtain ⟨hl, he⟩ := List.getElem?_eq_some_iff.mp h1
  exact ⟨d, by rw [List.drop_eq_getElem_cons hl, he], h2⟩
theorem for_data {F1 H1 : Hp} {ca1 : List Addr} {σ : L2.St} {s1 : S} {Dn : Ends} {a : Addr} {vs : List V} {xs : List D} (ht : TgD X cl g t) (b1 : Bx X cl e F1 H1 ca1 σ s1) (hl : SqL X.K F1 a vs) (hi : IsL X.K cl F1 ca1 vs xs) (q : rdSK X.K cl e W F1 ca1 Dn (loop t body xs s1)) :
    ∃ W' : Nat → Nat → L2.St → Hp → Prop, (∃ m, W' 0 m σ H1) ∧ ∀ i m σ H, W' i m σ H →
      ((Itl X.K a).stop i H ∧ Dn.nx σ H) ∨ ((Itl X.K a).go i H ∧ ∃ N : L2.St → Hp → Prop, (∀ σ' H', N σ' H' → ∃ m', m' < m ∧ W' (i + 1) m' σ' H') ∧ ∀ x H', (Itl X.K a).yld i H x H' → g x σ H' fun σ2 H2 => rdS X.K cl e W body { Dn with nx := N, ct := N, bk := Dn.nx } σ2 H2) := by
  refine for_list (K := X.K) (a := a) (xs := vs) (fun i σ H => Mid X cl e W t body Dn F1 ca1 (xs.drop i) σ H) ⟨F1, ca1, s1, b1, Ex.refl F1, Pre.refl ca1, q⟩ (fun i σ H hle ⟨F, ca, s, b, x, p, _⟩ => ex_l (x.trans b.fh) hl) (fun i v σ H hv m => ?_) (fun σ H m => ?_)
  · obtain ⟨F, ca, s, b, x, p, q⟩ := m
    obtain ⟨d, e1, i1⟩ := isL_len_of hi hv
    rw [e1] at q
    exact mid_turn ht b x p (i1.mono x p) q
  · rw [hi.length, List.drop_length] at m
    exact mid_end m
theorem it_list {f : DE} : ItD X cl e W (iList X.K (rd X.K cl e W f)) (iL f) := ⟨fun F H ca σ s g t body Dn b ht q => by
  refine ⟨F, ca, s, b, ?_⟩
  unfold iL at q
  cases e1 : f s with
  | ok d s1 =>
    rw [e1] at q
    intro v F1 H1 ca1 b1 x1 p1 i1
    cases i1 with
    | lst hl hi => exact ⟨_, rfl, ⟨_, SqL.of (b1.fh _ _ hl)⟩, for_data ht b1 (SqL.of hl) hi (rdSK.back x1 p1 q)⟩
    | ro hl hi => exact ⟨_, rfl, ⟨_, ex_l b1.fh hl⟩, for_data ht b1 hl hi (rdSK.back x1 p1 q)⟩
    | _ => exact False.elim q
  | nl xs s1 =>
    rw [e1] at q
    intro v F1 H1 ca1 b1 x1 p1 n1
    obtain ⟨F2, x2, b2, i2⟩ := n1.fix b1
    cases i2 with
    | lst hl hi => exact ⟨_, rfl, ⟨_, SqL.of (b2.fh _ _ hl)⟩, for_data ht b2 (SqL.of hl) hi (rdSK.back (x1.trans x2) p1 q)⟩
  | er x s1 =>
    rw [e1] at q
    exact fun cls dd F' H' ca' b' x' p' xo => q cls dd σ F' H' ca' b' x' p' xo
  | _ =>
    rw [e1] at q
    exact False.elim q⟩
theorem for_tupd {F1 H1 : Hp} {ca1 : List Addr} {σ : L2.St} {s1 : S} {Dn : Ends} {a : Addr} {vs : List V} {xs : List D} (ht : TgD X cl g t) (b1 : Bx X cl e F1 H1 ca1 σ s1) (hl : SqT X.K F1 a vs) (hi : IsL X.K cl F1 ca1 vs xs) (q : rdSK X.K cl e W F1 ca1 Dn (loop t body xs s1)) :
    ∃ W' : Nat → Nat → L2.St → Hp → Prop, (∃ m, W' 0 m σ H1) ∧ ∀ i m σ H, W' i m σ H →
      ((Itt X.K a).stop i H ∧ Dn.nx σ H) ∨ ((Itt X.K a).go i H ∧ ∃ N : L2.St → Hp → Prop, (∀ σ' H', N σ' H' → ∃ m', m' < m ∧ W' (i + 1) m' σ' H') ∧ ∀ x H', (Itt X.K a).yld i H x H' → g x σ H' fun σ2 H2 => rdS X.K cl e W body { Dn with nx := N, ct := N, bk := Dn.nx } σ2 H2) := by
  refine for_tup (K := X.K) (a := a) (xs := vs) (fun i σ H => Mid X cl e W t body Dn F1 ca1 (xs.drop i) σ H) ⟨F1, ca1, s1, b1, Ex.refl F1, Pre.refl ca1, q⟩ (fun i σ H hle ⟨F, ca, s, b, x, p, _⟩ => ex_t (x.trans b.fh) hl) (fun i v σ H hv m => ?_) (fun σ H m => ?_)
  · obtain ⟨F, ca, s, b, x, p, q⟩ := m
    obtain ⟨d, e1, i1⟩ := isL_len_of hi hv
    rw [e1] at q
    exact mid_turn ht b x p (i1.mono x p) q
  · rw [hi.length, List.drop_length] at m
    exact mid_end m
theorem it_tup {f : DE} : ItD X cl e W (iTup X.K (rd X.K cl e W f)) (iT f) := ⟨fun F H ca σ s g t body Dn b ht q => by
  refine ⟨F, ca, s, b, ?_⟩
  unfold iT at q
  cases e1 : f s with
  | ok d s1 =>
    rw [e1] at q
    intro v F1 H1 ca1 b1 x1 p1 i1
    cases i1 with
    | tup hl hi => exact ⟨_, rfl, ⟨_, ex_t b1.fh hl⟩, for_tupd ht b1 hl hi (rdSK.back x1 p1 q)⟩
    | _ => exact False.elim q
  | er x s1 =>
    rw [e1] at q
    exact fun cls dd F' H' ca' b' x' p' xo => q cls dd σ F' H' ca' b' x' p' xo
  | _ =>
    rw [e1] at q
    exact False.elim q⟩
/-- range(..) -/
def rngD (lo : Int) (n : Nat) : List D := (List.range n).map fun k => D.int (lo + (k : Nat))
theorem rngD_drop {lo : Int} {n i : Nat} (h : i < n) : (rngD lo n).drop i = D.int (lo + (i : Nat)) :: (rngD lo n).drop (i + 1) := by
  have hl : i < (rngD lo n).length := by simpa [rngD] using h
  rw [List.drop_eq_getElem_cons hl]
  simp [rngD]
theorem rngD_len (lo : Int) (n : Nat) : (rngD lo n).length = n := by simp [rngD]
def rng1 : List D → Option (List D)
  | [.int n] => if n.natAbs ≤ 1000000000000 then some (rngD 0 n.toNat) else none
  | _ => none
def rng2 : List D → Option (List D)
  | [.int a, .int n] => if a.natAbs ≤ 1000000000000 ∧ n.natAbs ≤ 1000000000000 then some (rngD a (n - a).toNat) else none
  | _ => none
theorem rng1_eq {ds xs : List D} (h : rng1 ds = some xs) : ∃ n : Int, ds = [.int n] ∧ n.natAbs ≤ 1000000000000 ∧ xs = rngD 0 n.toNat := by
  unfold rng1 at h
  split at h
  · split at h
    · cases h
      exact ⟨_, rfl, by assumption, rfl⟩
    · cases h
  · cases h
theorem rng2_eq {ds xs : List D} (h : rng2 ds = some xs) : ∃ a n : Int, ds = [.int a, .int n] ∧ (a.natAbs ≤ 1000000000000 ∧ n.natAbs ≤ 1000000000000) ∧ xs = rngD a (n - a).toNat := by
  unfold rng2 at h
  split at h
  · split at h
    · cases h
      exact ⟨_, _, rfl, by assumption, rfl⟩
    · cases h
  · cases h
def opI (s : S) : Option (List D) → RI
  | some xs => .ok xs s
  | none => .no
def bindAI : RA → (List D → S → RI) → RI
  | .ok d s, k => k d s
  | .er x s, _ => .er x s
  | .no, _ => .no
def iA (k : List D → Option (List D)) (g : DA) : DI := fun s => bindAI (g s) fun ds s1 => opI s1 (k ds)
theorem for_ints {F1 H1 : Hp} {ca1 : List Addr} {σ : L2.St} {s1 : S} {Dn : Ends} {lo : Int} {n : Nat} (ht : TgD X cl g t) (b1 : Bx X cl e F1 H1 ca1 σ s1) (q : rdSK X.K cl e W F1 ca1 Dn (loop t body (rngD lo n) s1)) :
    ∃ W' : Nat → Nat → L2.St → Hp → Prop, (∃ m, W' 0 m σ H1) ∧ ∀ i m σ H, W' i m σ H →
      ((Itr lo n).stop i H ∧ Dn.nx σ H) ∨ ((Itr lo n).go i H ∧ ∃ N : L2.St → Hp → Prop, (∀ σ' H', N σ' H' → ∃ m', m' < m ∧ W' (i + 1) m' σ' H') ∧ ∀ x H', (Itr lo n).yld i H x H' → g x σ H' fun σ2 H2 => rdS X.K cl e W body { Dn with nx := N, ct := N, bk := Dn.nx } σ2 H2) := by
  refine for_range (lo := lo) (n := n) (fun i σ H => Mid X cl e W t body Dn F1 ca1 ((rngD lo n).drop i) σ H) ⟨F1, ca1, s1, b1, Ex.refl F1, Pre.refl ca1, q⟩ (fun i σ H hlt m => ?_) (fun σ H m => ?_)
  · obtain ⟨F, ca, s, b, x, p, q⟩ := m
    rw [rngD_drop hlt] at q
    exact mid_turn ht b x p (.int _) q
  · have e1 : (rngD lo n).drop n = [] := List.drop_eq_nil_of_le (by rw [rngD_len]; exact Nat.le_refl n)
    rw [e1] at m
    exact mid_end m
theorem ints1 {F : Hp} {ca : List Addr} {vs : List V} {n : Int} (h : IsL X.K cl F ca vs [.int n]) : vs = [.int n] := by
  cases h with
  | cons i t =>
    cases t
    cases i
    rfl
theorem ints2 {F : Hp} {ca : List Addr} {vs : List V} {a n : Int} (h : IsL X.K cl F ca vs [.int a, .int n]) : vs = [.int a, .int n] := by
  cases h with
  | cons i t =>
    cases t with
    | cons i2 t =>
      cases t
      cases i
      cases i2
      rfl
theorem use_iA {ga : DA} {k : List D → Option (List D)} {F H : Hp} {ca : List Addr} {σ : L2.St} {s : S} {Dn : Ends} {Z : List V → Hp → Prop} (b : Bx X cl e F H ca σ s) (q : rdSK X.K cl e W F ca Dn (bindIO (iA k ga s) fun xs s1 => loop t body xs s1))
    (go : ∀ vs ds xs s1 F1 H1 ca1, Bx X cl e F1 H1 ca1 σ s1 → IsL X.K cl F1 ca1 vs ds → k ds = some xs → rdSK X.K cl e W F1 ca1 Dn (loop t body xs s1) → Z vs H1) : rdA X.K cl e W ga σ H Z := by
  refine ⟨F, ca, s, b, ?_⟩
  unfold iA at q
  cases e1 : ga s with
  | ok ds s1 =>
    rw [e1] at q
    intro vs F1 H1 ca1 b1 x1 p1 i1
    have q' : rdSK X.K cl e W F ca Dn (bindIO (opI s1 (k ds)) fun xs s1 => loop t body xs s1) := q
    cases e2 : k ds with
    | none =>
      rw [e2] at q'
      exact False.elim q'
    | some xs =>
      rw [e2] at q'
      exact go vs ds xs s1 F1 H1 ca1 b1 i1 e2 (rdSK.back x1 p1 q')
  | er x s1 =>
    rw [e1] at q
    exact fun cls dd F' H' ca' b' x' p' xo => q cls dd σ F' H' ca' b' x' p' xo
  | no =>
    rw [e1] at q
    exact False.elim q
theorem it_rng1 {ga : DA} : ItD X cl e W (iRng1 (rdA X.K cl e W ga)) (iA rng1 ga) := ⟨fun F H ca σ s g t body Dn b ht q => by
  refine use_iA b q fun vs ds xs s1 F1 H1 ca1 b1 i1 hk q1 => ?_
  obtain ⟨n, rfl, hb, rfl⟩ := rng1_eq hk
  exact ⟨n, ints1 i1, by omega, by omega, for_ints ht b1 q1⟩⟩
theorem it_rng2 {ga : DA} : ItD X cl e W (iRng2 (rdA X.K cl e W ga)) (iA rng2 ga) := ⟨fun F H ca σ s g t body Dn b ht q => by
  refine use_iA b q fun vs ds xs s1 F1 H1 ca1 b1 i1 hk q1 => ?_
  obtain ⟨a, n, rfl, hb, rfl⟩ := rng2_eq hk
  exact ⟨a, n, ints2 i1, ⟨by omega, by omega, by omega, by omega⟩, for_ints ht b1 q1⟩⟩

/-! enumerate, zip of lists -/
def pairs : List D → List D → List D
  | a :: as, b :: bs => .tup [a, b] :: pairs as bs
  | _, _ => []
def enumD (k : Nat) : List D → List D
  | [] => []
  | d :: ds => .tup [.int (k : Int), d] :: enumD (k + 1) ds
def frL : D → Option (List D)
  | .lst xs => some xs
  | .ro xs => some xs
  | _ => none
theorem frL_ok {F : Hp} {ca : List Addr} {v : V} {d : D} {xs : List D} (h : Is X.K cl F ca v d) (q : frL d = some xs) : ∃ a vs, v = .ref a ∧ SqL X.K F a vs ∧ IsL X.K cl F ca vs xs := by
  cases h with
  | lst hl hi =>
    cases q
    exact ⟨_, _, rfl, SqL.of hl, hi⟩
  | ro hl hi =>
    cases q
    exact ⟨_, _, rfl, hl, hi⟩
  | _ => cases q
def zipK : List D → Option (List D)
  | [a, b] => match frL a, frL b with
    | some xs, some ys => if xs.length = ys.length then some (pairs xs ys) else none
    | _, _ => none
  | _ => none
def enumK : List D → Option (List D)
  | [a] => (frL a).map (enumD 0)
  | _ => none
theorem pairs_drop : ∀ {xs ys : List D} {i : Nat} {x y : D}, xs[i]? = some x → ys[i]? = some y → (pairs xs ys).drop i = .tup [x, y] :: (pairs xs ys).drop (i + 1)
  | [], _, _, _, _, h, _ => by simp at h
  | _ :: _, [], _, _, _, _, h => by simp at h
  | a :: as, b :: bs, 0, x, y, h1, h2 => by
    simp at h1 h2
    subst h1
    subst h2
    rfl
  | a :: as, b :: bs, i + 1, x, y, h1, h2 => by
    have ih := pairs_drop (xs := as) (ys := bs) (i := i) (x := x) (y := y) (by simpa using h1) (by simpa using h2)
    exact ih
theorem pairs_end : ∀ {xs ys : List D}, (pairs xs ys).drop xs.length = []
  | [], _ => by simp [pairs]
  | _ :: _, [] => by simp [pairs]
  | a :: as, b :: bs => pairs_end (xs := as) (ys := bs)
theorem enum_drop : ∀ {xs : List D} {i k : Nat} {x : D}, xs[i]? = some x → (enumD k xs).drop i = .tup [.int ((k + i : Nat) : Int), x] :: (enumD k xs).drop (i + 1)
  | [], _, _, _, h => by simp at h
  | a :: as, 0, k, x, h => by
    simp at h
    subst h
    rfl
  | a :: as, i + 1, k, x, h => by
    have ih := enum_drop (xs := as) (i := i) (k := k + 1) (x := x) (by simpa using h)
    have e1 : k + 1 + i = k + (i + 1) := by omega
    rw [e1] at ih
    exact ih
theorem enum_end : ∀ {xs : List D} {k : Nat}, (enumD k xs).drop xs.length = []
  | [], _ => rfl
  | a :: as, k => enum_end (xs := as) (k := k + 1)
/-- a pair just made is data -/
theorem Mid.pair {Dn : Ends} {F0 F H : Hp} {ca0 ca : List Addr} {σ : L2.St} {s : S} {T : Addr} {v1 v2 : V} {d1 d2 : D} {ds : List D} (ht : TgD X cl g t) (b : Bx X cl e F H ca σ s) (x : Ex F0 F) (p : Pre ca0 ca) (hT : H T = none) (i1 : Is X.K cl F ca v1 d1) (i2 : Is X.K cl F ca v2 d2)
    (q : rdSK X.K cl e W F ca Dn (loop t body (.tup [d1, d2] :: ds) s)) :
    g (.ref T) σ (upd H T (.tup [v1, v2])) fun σ2 H2 => rdS X.K cl e W body { Dn with nx := Mid X cl e W t body Dn F0 ca0 ds, ct := Mid X cl e W t body Dn F0 ca0 ds, bk := Dn.nx } σ2 H2 := by
  have hF := b.notF hT
  have ex : Ex F (upd F T (.tup [v1, v2])) := Ex.new hF
  refine mid_turn (v := .ref T) (d := .tup [d1, d2]) ht ((b.laid hT).fix upd_same hF (b.notca hT) (b.notH0 hT)) (x.trans ex) p ?_ (rdSK.back ex (Pre.refl ca) q)
  exact .tup (SqT.of upd_same) (.cons (i1.mono ex (Pre.refl ca)) (.cons (i2.mono ex (Pre.refl ca)) .nil))
theorem it_zip {ga : DA} : ItD X cl e W (iZip X.K (rdA X.K cl e W ga)) (iA zipK ga) := ⟨fun F H ca σ s g t body Dn b ht q => by
  refine use_iA b q fun vs ds xs s1 F1 H1 ca1 b1 i1 hk q1 => ?_
  unfold zipK at hk
  split at hk
  · rename_i da db
    cases e1 : frL da with
    | none =>
      rw [e1] at hk
      cases hk
    | some as =>
      rw [e1] at hk
      cases e2 : frL db with
      | none =>
        rw [e2] at hk
        cases hk
      | some bs =>
        rw [e2] at hk
        by_cases hl : as.length = bs.length
        · have hk' : (if as.length = bs.length then some (pairs as bs) else none) = some xs := hk
          rw [if_pos hl] at hk'
          cases hk'
          cases i1 with
          | cons ia it =>
            cases it with
            | cons ib it =>
              cases it
              obtain ⟨a, va, rfl, la, ja⟩ := frL_ok ia e1
              obtain ⟨c, vb, rfl, lb, jb⟩ := frL_ok ib e2
              refine ⟨a, c, va, vb, rfl, ex_l b1.fh la, ex_l b1.fh lb, ?_⟩
              refine RZ.for_zipL (xs := va) (ys := vb) (by rw [ja.length, jb.length, hl]) (fun i σ H => Mid X cl e W t body Dn F1 ca1 ((pairs as bs).drop i) σ H) ⟨F1, ca1, s1, b1, Ex.refl F1, Pre.refl ca1, q1⟩
                (fun i σ H ⟨F, ca, s, b, x, p, _⟩ => ⟨ex_l (x.trans b.fh) la, ex_l (x.trans b.fh) lb⟩) (fun i v w T σ H hv hw m hT => ?_) (fun σ H m => ?_)
              · obtain ⟨F, ca, s, b, x, p, q⟩ := m
                obtain ⟨d1, h1, j1⟩ := ja.getV hv
                obtain ⟨d2, h2, j2⟩ := jb.getV hw
                rw [pairs_drop h1 h2] at q
                exact Mid.pair ht b x p hT (j1.mono x p) (j2.mono x p) q
              · rw [ja.length, pairs_end] at m
                exact mid_end m
        · have hk' : (if as.length = bs.length then some (pairs as bs) else none) = some xs := hk
          rw [if_neg hl] at hk'
          cases hk'
  · cases hk⟩
theorem it_enum {ga : DA} : ItD X cl e W (iEnum X.K (rdA X.K cl e W ga)) (iA enumK ga) := ⟨fun F H ca σ s g t body Dn b ht q => by
  refine use_iA b q fun vs ds xs s1 F1 H1 ca1 b1 i1 hk q1 => ?_
  unfold enumK at hk
  split at hk
  · rename_i da
    cases e1 : frL da with
    | none =>
      rw [e1] at hk
      cases hk
    | some as =>
      rw [e1] at hk
      cases hk
      cases i1 with
      | cons ia it =>
        cases it
        obtain ⟨a, va, rfl, la, ja⟩ := frL_ok ia e1
        refine ⟨a, va, rfl, ex_l b1.fh la, ?_⟩
        refine ⟨fun i m σ H => m = va.length - i ∧ i ≤ va.length ∧ Mid X cl e W t body Dn F1 ca1 ((enumD 0 as).drop i) σ H, ⟨va.length, rfl, Nat.zero_le _, ⟨F1, ca1, s1, b1, Ex.refl F1, Pre.refl ca1, q1⟩⟩, ?_⟩
        rintro i m σ H ⟨rfl, hle, M⟩
        obtain ⟨F, ca, s, b, x, p, q⟩ := M
        have hq : SqL X.K H a va := ex_l (x.trans b.fh) la
        by_cases hlt : i < va.length
        · refine .inr ⟨⟨va, va[i], hq, List.getElem?_eq_getElem hlt⟩, fun σ' H' => Mid X cl e W t body Dn F1 ca1 ((enumD 0 as).drop (i + 1)) σ' H', fun σ' H' M' => ⟨va.length - (i + 1), by omega, rfl, hlt, M'⟩, fun w H' y => ?_⟩
          obtain ⟨T, x0, rfl, hT, rfl, hx⟩ := y
          have hv := hx va hq
          obtain ⟨d, h1, j1⟩ := ja.getV hv
          rw [enum_drop h1] at q
          have e0 : ((0 + i : Nat) : Int) = ((i : Nat) : Int) := by rw [Nat.zero_add]
          rw [e0] at q
          exact Mid.pair ht b x p hT (.int _) (j1.mono x p) q
        · have e2 : i = va.length := by omega
          subst e2
          refine .inl ⟨⟨va, hq, Nat.le_refl _⟩, ?_⟩
          rw [ja.length, enum_end] at q
          exact q σ F H ca b (Ex.refl F) (Pre.refl ca)
  · cases hk⟩
end
end Dv

set_option maxRecDepth 100000
set_option maxHeartbeats 4000000
/-! list comprehensions -/
namespace Dv
open PySem PySem.Spec PyProof.Rows L2

/-- nothing is wished of errors: they don't come -/
abbrev W0 : WX := fun _ _ _ _ => False
theorem takesW0 {X : Cx} : Takes X W0 := fun u s' ⟨a, B, sI, pins, σ, H, cls, d, e, I, nb, up, sky, na, os, ag, w⟩ => False.elim w

section
variable {K : PySem.W.Frag} {cl : Cl} {e : Ent} {F F' H H' : Hp} {ca ca' : List Addr} {σ σ' : L2.St} {s s' : S}
/-- behind a block of the body's own -/
theorem B.block (b : B K cl e F H ca σ s) (c : B K cl ⟨F, H, ca⟩ F' H' ca' σ' s') : B K cl e F' H' ca' σ ⟨s.sl, s'.ce, s.n0⟩ where
  fh := c.fh
  exF := b.exF.trans c.exF
  keep := fun a o q n => by
    refine c.keep a o (b.keep a o q n) fun hm => ?_
    rcases b.newc a hm with w | w
    · exact n w
    · rw [q] at w
      cases w
  free := fun a o q n => by
    obtain ⟨o', h⟩ := b.hcl a o q
    exact c.free a o' h (b.free a o q n)
  pre := b.pre.trans c.pre
  newc := fun a ha => by
    rcases c.newc a ha with w | w
    · exact b.newc a w
    · exact .inr (b.notH0 w)
  cel := c.cel
  len := b.len
  slo := fun i d q => by
    obtain ⟨v, h1, h2⟩ := b.slo i d q
    exact ⟨v, h1, h2.mono c.exF c.pre⟩
  hcl := fun a o q => by
    obtain ⟨o', h⟩ := b.hcl a o q
    exact c.hcl a o' h
  n0 := b.n0
end

def wipeD (sl : List (Option D)) : List Nat → List (Option D)
  | [] => sl
  | v :: vs => (wipeD sl vs).set v none
theorem wipeD_len (sl : List (Option D)) : ∀ vs, (wipeD sl vs).length = sl.length
  | [] => rfl
  | v :: vs => by
    unfold wipeD
    rw [List.length_set, wipeD_len sl vs]
theorem wipeD_some {sl : List (Option D)} {i : Nat} {d : D} : ∀ {vs : List Nat}, (wipeD sl vs)[i]? = some (some d) → sl[i]? = some (some d) ∧ i ∉ vs
  | [], h => ⟨h, by simp⟩
  | v :: vs, h => by
    unfold wipeD at h
    by_cases hi : v = i
    · subst hi
      by_cases hv : v < (wipeD sl vs).length
      · rw [List.getElem?_set_self hv] at h
        cases h
      · rw [List.getElem?_eq_none (by rw [List.length_set]; omega)] at h
        cases h
    · rw [List.getElem?_set_ne hi] at h
      obtain ⟨h1, h2⟩ := wipeD_some (vs := vs) h
      exact ⟨h1, by
        intro hm
        rcases List.mem_cons.mp hm with z | z
        · exact hi z.symm
        · exact h2 z⟩
theorem wipe_keep {σ : L2.St} {i : Nat} {v : V} : ∀ {vs : List Nat}, i ∉ vs → σ[i]? = some (some v) → (wipe σ vs)[i]? = some (some v)
  | [], _, h => h
  | w :: vs, hn, h => by
    unfold wipe
    rw [List.getElem?_set_ne (fun z => hn (by rw [z]; exact List.mem_cons_self))]
    exact wipe_keep (fun z => hn (List.mem_cons_of_mem _ z)) h
theorem wipe_ext {σ τ : L2.St} (hl : σ.length = τ.length) : ∀ {vs : List Nat}, (∀ i, i ∉ vs → σ[i]? = τ[i]?) → wipe σ vs = wipe τ vs := by
  intro vs h
  refine List.ext_getElem? fun i => ?_
  by_cases hi : i ∈ vs
  · have gen : ∀ (ρ : L2.St) (vs : List Nat), i ∈ vs → (wipe ρ vs)[i]? = if i < ρ.length then some none else none := by
      intro ρ vs
      induction vs with
      | nil => intro hm; cases hm
      | cons w ws ih =>
        intro hm
        unfold wipe
        by_cases z : w = i
        · subst z
          by_cases hw : w < ρ.length
          · rw [List.getElem?_set_self (by rw [wipe_length]; exact hw), if_pos hw]
          · rw [List.getElem?_eq_none (by rw [List.length_set, wipe_length]; omega), if_neg hw]
        · rw [List.getElem?_set_ne z]
          exact ih (by
            rcases List.mem_cons.mp hm with y | y
            · exact absurd y.symm z
            · exact y)
    rw [gen σ vs hi, gen τ vs hi, hl]
  · have gen : ∀ (ρ : L2.St) (vs : List Nat), i ∉ vs → (wipe ρ vs)[i]? = ρ[i]? := by
      intro ρ vs
      induction vs with
      | nil => intro _; rfl
      | cons w ws ih =>
        intro hn
        unfold wipe
        rw [List.getElem?_set_ne (fun z => hn (by rw [z]; exact List.mem_cons_self))]
        exact ih fun z => hn (List.mem_cons_of_mem _ z)
    rw [gen σ vs hi, gen τ vs hi]
    exact h i hi
/-- targets that store into vs alone -/
def TgC (X : Cx) (cl : Cl) (g : TG) (t : DT) (vs : List Nat) : Prop := ∀ (e : Ent) (F H : Hp) (ca : List Addr) (σ : L2.St) (s s1 : S) (v : V) (d : D), Bx X cl e F H ca σ s → Is X.K cl F ca v d → t d s = some s1 →
  ∀ Q : L2.St → Hp → Prop, (∀ σ', Bx X cl e F H ca σ' s1 → σ'.length = σ.length → (∀ i, i ∉ vs → σ'[i]? = σ[i]?) → Q σ' H) → g v σ H Q
def TgsC (X : Cx) (cl : Cl) (g : TGs) (ts : List DT) (vs : List Nat) : Prop := ∀ (e : Ent) (F H : Hp) (ca : List Addr) (σ : L2.St) (s s1 : S) (us : List V) (ds : List D), Bx X cl e F H ca σ s → IsL X.K cl F ca us ds → tgs ts ds s = some s1 →
  ∀ Q : L2.St → Hp → Prop, (∀ σ', Bx X cl e F H ca σ' s1 → σ'.length = σ.length → (∀ i, i ∉ vs → σ'[i]? = σ[i]?) → Q σ' H) → g us σ H Q
section
variable {X : Cx} {cl : Cl}
theorem tc_name {i : Nat} {vs : List Nat} (hi : i ∈ vs) : TgC X cl (gName i) (tgN i) vs := fun e F H ca σ s s1 v d b h q Q k => by
  cases q
  exact k _ (b.put h) (by rw [List.length_set]) fun j hj => List.getElem?_set_ne (fun z => hj (by rw [← z]; exact hi))
theorem tcs_nil {vs : List Nat} : TgsC X cl gNil [] vs := fun e F H ca σ s s1 us ds b h q Q k => by
  cases ds with
  | nil =>
    cases h
    cases q
    exact ⟨rfl, k σ b rfl fun _ _ => rfl⟩
  | cons _ _ => cases q
theorem tcs_cons {g : TG} {gs : TGs} {t : DT} {ts : List DT} {vs : List Nat} (h1 : TgC X cl g t vs) (h2 : TgsC X cl gs ts vs) : TgsC X cl (gCons g gs) (t :: ts) vs := fun e F H ca σ s s1 us ds b h q Q k => by
  cases ds with
  | nil => cases q
  | cons d ds =>
    cases h with
    | cons i it =>
      have q' : (t d s).bind (fun s1 => tgs ts ds s1) = some s1 := q
      cases e1 : t d s with
      | none =>
        rw [e1] at q'
        cases q'
      | some s2 =>
        rw [e1] at q'
        exact ⟨_, _, rfl, h1 e F H ca σ s s2 _ d b i e1 _ fun σ' b' l' w' => h2 e F H ca σ' s2 s1 _ ds b' it q' Q fun σ2 b2 l2 w2 => k σ2 b2 (l2.trans l') fun j hj => (w2 j hj).trans (w' j hj)⟩
theorem tc_tup {gs : TGs} {ts : List DT} {n : Nat} {vs : List Nat} (h : TgsC X cl gs ts vs) (hn : ts.length = n) : TgC X cl (gTup X.K n gs) (tgT ts) vs := fun e F H ca σ s s1 v d b i q Q k => by
  cases i with
  | tup hl hi =>
    have q' : tgs ts _ s = some s1 := q
    exact ⟨_, _, rfl, ex_t b.fh hl, by rw [hi.length, tgs_len q', hn], h e F H ca σ s s1 _ _ b hi q' Q k⟩
  | _ => cases q
end

/-- an iterator walks these items -/
def WkG (X : Cx) (cl : Cl) (gd : S → Bool) (J : It) (F : Hp) (ca : List Addr) (xs : List D) : Prop :=
  ∀ (e : Ent) (F1 H : Hp) (ca1 : List Addr) (σ : L2.St) (s : S), Bx X cl e F1 H ca1 σ s → Ex F F1 → Pre ca ca1 → gd s = true → J.stop xs.length H ∧
    ∀ (i : Nat) (d : D), xs[i]? = some d → J.go i H ∧ ∀ x H', J.yld i H x H' → ∃ F2, Ex F1 F2 ∧ (∀ b o, H b = some o → F1 b = none → F2 b = none) ∧ Ex H H' ∧ Bx X cl e F2 H' ca1 σ s ∧ Is X.K cl F2 ca1 x d
/-- .. whatever the state says -/
abbrev gYes : S → Bool := fun _ => true
abbrev WkD (X : Cx) (cl : Cl) (J : It) (F : Hp) (ca : List Addr) (xs : List D) : Prop := WkG X cl gYes J F ca xs
/-- what is walked -/
structure ItC (X : Cx) (cl : Cl) (e : Ent) (W : WX) (wi : TI) (it : DI) : Prop where
  run : ∀ (F H : Hp) (ca : List Addr) (σ : L2.St) (s : S) (Q : VK) (k : List D → S → R) (Z : It → Hp → Prop), Bx X cl e F H ca σ s → rdK X.K cl e W σ F ca Q (bindIR (it s) k) →
    (∀ J xs s1 F1 H1 ca1, Bx X cl e F1 H1 ca1 σ s1 → WkD X cl J F1 ca1 xs → rdK X.K cl e W σ F1 ca1 Q (k xs s1) → Z J H1) → wi σ H Z
section
variable {X : Cx} {cl : Cl} {e : Ent} {W : WX}
theorem wk_list {F : Hp} {ca : List Addr} {a : Addr} {vs : List V} {xs : List D} (hl : SqL X.K F a vs) (hi : IsL X.K cl F ca vs xs) : WkD X cl (Itl X.K a) F ca xs := fun e F1 H ca1 σ s b x p _ => by
  have h1 := ex_l (x.trans b.fh) hl
  refine ⟨⟨vs, h1, by rw [hi.length]; exact Nat.le_refl _⟩, fun i d hd => ?_⟩
  obtain ⟨v, hv, iv⟩ := hi.get hd
  refine ⟨⟨vs, v, h1, hv⟩, fun w H' y => ?_⟩
  obtain ⟨rfl, y⟩ := y
  have e1 := y vs h1
  rw [hv] at e1
  cases e1
  exact ⟨F1, Ex.refl _, fun _ _ _ n => n, Ex.refl _, b, iv.mono x p⟩
theorem wk_tup {F : Hp} {ca : List Addr} {a : Addr} {vs : List V} {xs : List D} (hl : SqT X.K F a vs) (hi : IsL X.K cl F ca vs xs) : WkD X cl (Itt X.K a) F ca xs := fun e F1 H ca1 σ s b x p _ => by
  have h1 := ex_t (x.trans b.fh) hl
  refine ⟨⟨vs, h1, by rw [hi.length]; exact Nat.le_refl _⟩, fun i d hd => ?_⟩
  obtain ⟨v, hv, iv⟩ := hi.get hd
  refine ⟨⟨vs, v, h1, hv⟩, fun w H' y => ?_⟩
  obtain ⟨rfl, y⟩ := y
  have e1 := y vs h1
  rw [hv] at e1
  cases e1
  exact ⟨F1, Ex.refl _, fun _ _ _ n => n, Ex.refl _, b, iv.mono x p⟩
theorem wk_rng {F : Hp} {ca : List Addr} {lo : Int} {n : Nat} : WkD X cl (Itr lo n) F ca (rngD lo n) := fun e F1 H ca1 σ s b x p _ => by
  refine ⟨by show n ≤ (rngD lo n).length; rw [rngD_len]; exact Nat.le_refl _, fun i d hd => ?_⟩
  have hlt : i < n := by
    have q := (List.getElem?_eq_some_iff.mp hd).1
    rw [rngD_len] at q
    exact q
  have e1 : d = .int (lo + (i : Nat)) := by
    have q : (rngD lo n)[i]? = some (D.int (lo + (i : Nat))) := by simp [rngD, hlt]
    rw [q] at hd
    exact (Option.some.inj hd).symm
  subst e1
  refine ⟨hlt, fun w H' y => ?_⟩
  obtain ⟨rfl, rfl⟩ := y
  exact ⟨F1, Ex.refl _, fun _ _ _ n => n, Ex.refl _, b, .int _⟩
theorem wk_new {F1 H : Hp} {ca1 : List Addr} {σ : L2.St} {s : S} {T : Addr} {v1 v2 : V} {d1 d2 : D} (b : Bx X cl e F1 H ca1 σ s) (hT : H T = none) (i1 : Is X.K cl F1 ca1 v1 d1) (i2 : Is X.K cl F1 ca1 v2 d2) :
    ∃ F2, Ex F1 F2 ∧ (∀ b o, H b = some o → F1 b = none → F2 b = none) ∧ Ex H (upd H T (.tup [v1, v2])) ∧ Bx X cl e F2 (upd H T (.tup [v1, v2])) ca1 σ s ∧ Is X.K cl F2 ca1 (.ref T) (.tup [d1, d2]) := by
  have hF := b.notF hT
  have ex : Ex F1 (upd F1 T (.tup [v1, v2])) := Ex.new hF
  exact ⟨_, ex, fun c o q n => by rw [upd_ne (ne_of_none q hT)]; exact n, Ex.new hT, (b.laid hT).fix upd_same hF (b.notca hT) (b.notH0 hT), .tup (SqT.of upd_same) (.cons (i1.mono ex (Pre.refl ca1)) (.cons (i2.mono ex (Pre.refl ca1)) .nil))⟩
theorem pairs_get : ∀ {xs ys : List D} {i : Nat} {d : D}, (pairs xs ys)[i]? = some d → ∃ x y, xs[i]? = some x ∧ ys[i]? = some y ∧ d = .tup [x, y]
  | [], _, _, _, h => by simp [pairs] at h
  | _ :: _, [], _, _, h => by simp [pairs] at h
  | a :: as, b :: bs, 0, d, h => by
    simp [pairs] at h
    exact ⟨a, b, rfl, rfl, h.symm⟩
  | a :: as, b :: bs, i + 1, d, h => by
    have h' : (pairs as bs)[i]? = some d := h
    obtain ⟨x, y, h1, h2, h3⟩ := pairs_get (xs := as) (ys := bs) h'
    exact ⟨x, y, by simpa using h1, by simpa using h2, h3⟩
theorem pairs_len : ∀ {xs ys : List D}, xs.length = ys.length → (pairs xs ys).length = xs.length
  | [], _, _ => rfl
  | _ :: _, [], h => by simp at h
  | a :: as, b :: bs, h => by
    show (pairs as bs).length + 1 = as.length + 1
    rw [pairs_len (by simpa using h)]
theorem wk_zip {F : Hp} {ca : List Addr} {a c : Addr} {va vb : List V} {as bs : List D} (la : SqL X.K F a va) (lb : SqL X.K F c vb) (ja : IsL X.K cl F ca va as) (jb : IsL X.K cl F ca vb bs) (hl : as.length = bs.length) : WkD X cl (Itz X.K a c) F ca (pairs as bs) := fun e F1 H ca1 σ s b x p _ => by
  have h1 := ex_l (x.trans b.fh) la
  have h2 := ex_l (x.trans b.fh) lb
  refine ⟨⟨va, vb, h1, h2, .inl (by rw [pairs_len hl, ja.length]; exact Nat.le_refl _)⟩, fun i d hd => ?_⟩
  obtain ⟨d1, d2, e1, e2, rfl⟩ := pairs_get hd
  obtain ⟨v1, hv1, i1⟩ := ja.get e1
  obtain ⟨v2, hv2, i2⟩ := jb.get e2
  refine ⟨⟨va, vb, v1, v2, h1, h2, hv1, hv2⟩, fun w H' y => ?_⟩
  obtain ⟨T, x0, y0, rfl, hT, rfl, y1, y2⟩ := y
  have z1 := y1 va h1
  have z2 := y2 vb h2
  rw [hv1] at z1
  rw [hv2] at z2
  cases z1
  cases z2
  exact wk_new b hT (i1.mono x p) (i2.mono x p)
theorem ic_list {f : DE} : ItC X cl e W (iList X.K (rd X.K cl e W f)) (iL f) := ⟨fun F H ca σ s Q k Z b q go => by
  refine ⟨F, ca, s, b, ?_⟩
  unfold iL at q
  cases e1 : f s with
  | ok d s1 =>
    rw [e1] at q
    intro v F1 H1 ca1 b1 x1 p1 i1
    cases i1 with
    | lst hl hi => exact ⟨_, rfl, ⟨_, SqL.of (b1.fh _ _ hl)⟩, go _ _ s1 F1 H1 ca1 b1 (wk_list (SqL.of hl) hi) (rdK.back x1 p1 q)⟩
    | ro hl hi => exact ⟨_, rfl, ⟨_, ex_l b1.fh hl⟩, go _ _ s1 F1 H1 ca1 b1 (wk_list hl hi) (rdK.back x1 p1 q)⟩
    | _ => exact False.elim q
  | nl xs s1 =>
    rw [e1] at q
    intro v F1 H1 ca1 b1 x1 p1 n1
    obtain ⟨F2, x2, b2, i2⟩ := n1.fix b1
    cases i2 with
    | lst hl hi => exact ⟨_, rfl, ⟨_, SqL.of (b2.fh _ _ hl)⟩, go _ _ s1 F2 H1 ca1 b2 (wk_list (SqL.of hl) hi) (rdK.back (x1.trans x2) p1 q)⟩
  | er x s1 =>
    rw [e1] at q
    exact fun cls dd F' H' ca' b' x' p' xo => q cls dd F' H' ca' b' x' p' xo
  | _ =>
    rw [e1] at q
    exact False.elim q⟩
theorem ic_tup {f : DE} : ItC X cl e W (iTup X.K (rd X.K cl e W f)) (iT f) := ⟨fun F H ca σ s Q k Z b q go => by
  refine ⟨F, ca, s, b, ?_⟩
  unfold iT at q
  cases e1 : f s with
  | ok d s1 =>
    rw [e1] at q
    intro v F1 H1 ca1 b1 x1 p1 i1
    cases i1 with
    | tup hl hi => exact ⟨_, rfl, ⟨_, ex_t b1.fh hl⟩, go _ _ s1 F1 H1 ca1 b1 (wk_tup hl hi) (rdK.back x1 p1 q)⟩
    | _ => exact False.elim q
  | er x s1 =>
    rw [e1] at q
    exact fun cls dd F' H' ca' b' x' p' xo => q cls dd F' H' ca' b' x' p' xo
  | _ =>
    rw [e1] at q
    exact False.elim q⟩
theorem use_iAR {ga : DA} {kk : List D → Option (List D)} {F H : Hp} {ca : List Addr} {σ : L2.St} {s : S} {Q : VK} {k : List D → S → R} {Z : List V → Hp → Prop} (b : Bx X cl e F H ca σ s) (q : rdK X.K cl e W σ F ca Q (bindIR (iA kk ga s) k))
    (go : ∀ vs ds xs s1 F1 H1 ca1, Bx X cl e F1 H1 ca1 σ s1 → IsL X.K cl F1 ca1 vs ds → kk ds = some xs → rdK X.K cl e W σ F1 ca1 Q (k xs s1) → Z vs H1) : rdA X.K cl e W ga σ H Z := by
  refine ⟨F, ca, s, b, ?_⟩
  unfold iA at q
  cases e1 : ga s with
  | ok ds s1 =>
    rw [e1] at q
    intro vs F1 H1 ca1 b1 x1 p1 i1
    have q' : rdK X.K cl e W σ F ca Q (bindIR (opI s1 (kk ds)) k) := q
    cases e2 : kk ds with
    | none =>
      rw [e2] at q'
      exact False.elim q'
    | some xs =>
      rw [e2] at q'
      exact go vs ds xs s1 F1 H1 ca1 b1 i1 e2 (rdK.back x1 p1 q')
  | er x s1 =>
    rw [e1] at q
    exact fun cls dd F' H' ca' b' x' p' xo => q cls dd F' H' ca' b' x' p' xo
  | no =>
    rw [e1] at q
    exact False.elim q
theorem ic_rng1 {ga : DA} : ItC X cl e W (iRng1 (rdA X.K cl e W ga)) (iA rng1 ga) := ⟨fun F H ca σ s Q k Z b q go => by
  refine use_iAR b q fun vs ds xs s1 F1 H1 ca1 b1 i1 hk q1 => ?_
  obtain ⟨n, rfl, hb, rfl⟩ := rng1_eq hk
  exact ⟨n, ints1 i1, by omega, by omega, go _ _ s1 F1 H1 ca1 b1 wk_rng q1⟩⟩
theorem ic_rng2 {ga : DA} : ItC X cl e W (iRng2 (rdA X.K cl e W ga)) (iA rng2 ga) := ⟨fun F H ca σ s Q k Z b q go => by
  refine use_iAR b q fun vs ds xs s1 F1 H1 ca1 b1 i1 hk q1 => ?_
  obtain ⟨a, n, rfl, hb, rfl⟩ := rng2_eq hk
  exact ⟨a, n, ints2 i1, ⟨by omega, by omega, by omega, by omega⟩, go _ _ s1 F1 H1 ca1 b1 wk_rng q1⟩⟩
theorem zipK_eq {ds xs : List D} (h : zipK ds = some xs) : ∃ a b as bs, ds = [a, b] ∧ frL a = some as ∧ frL b = some bs ∧ as.length = bs.length ∧ xs = pairs as bs := by
  unfold zipK at h
  split at h
  · split at h
    · split at h
      · cases h
        exact ⟨_, _, _, _, rfl, by assumption, by assumption, by assumption, rfl⟩
      · cases h
    · cases h
  · cases h
theorem ic_zip {ga : DA} : ItC X cl e W (iZip X.K (rdA X.K cl e W ga)) (iA zipK ga) := ⟨fun F H ca σ s Q k Z b q go => by
  refine use_iAR b q fun vs ds xs s1 F1 H1 ca1 b1 i1 hk q1 => ?_
  obtain ⟨da, db, as, bs, rfl, e1, e2, hl, rfl⟩ := zipK_eq hk
  cases i1 with
  | cons ia it =>
    cases it with
    | cons ib it =>
      cases it
      obtain ⟨a, va, rfl, la, ja⟩ := frL_ok ia e1
      obtain ⟨c, vb, rfl, lb, jb⟩ := frL_ok ib e2
      exact ⟨a, c, va, vb, rfl, ex_l b1.fh la, ex_l b1.fh lb, go _ _ s1 F1 H1 ca1 b1 (wk_zip la lb ja jb hl) q1⟩⟩
end

/-- a turn of a comprehension starts with its own names wiped, and nobody's cells are its own -/
def inS (vs : List Nat) (s : S) : S := ⟨wipeD s.sl vs, s.ce, s.ce.length⟩
def outS (s s1 : S) : S := ⟨s.sl, s1.ce, s.n0⟩
def okR : R → (D → S → R) → R
  | .ok d s, k => k d s
  | _, _ => .no
def okB : RB → (Bool → S → R) → R
  | .ok d s, k => k d s
  | _, _ => .no
def tgR (k : S → R) : Option S → R
  | some s => k s
  | none => .no
def compL (gd : S → Bool) (t : DT) (vs : List Nat) (c : DB) (f : DE) : List D → List D → S → R
  | [], acc, s => if gd s = true then .nl acc s else .no
  | d :: ds, acc, s => if gd s = true then tgR (fun s1 => okB (c s1) fun b s2 => if b = true then okR (f s2) (fun x s3 => if acc.length < 100000 then compL gd t vs c f ds (acc ++ [x]) (outS s s3) else .no) else compL gd t vs c f ds acc (outS s s2)) (t d (inS vs s)) else .no
def dComp (it : DI) (t : DT) (vs : List Nat) (c : DB) (f : DE) : DE := fun s => bindIR (it s) fun xs s1 => compL gYes t vs c f xs [] s1
def bYes : DB := fun s => .ok true s
section
variable {X : Cx} {cl : Cl} {e : Ent} {W : WX} {t : DT} {vs : List Nat} {c : DB} {f : DE} {g : TG}
theorem comp_core {σ : L2.St} {Q : VK} {gd : S → Bool} {J : It} {xs : List D} {s1 : S} {F1 H1 : Hp} {ca1 : List Addr} (hg : TgC X cl g t vs) (b1 : Bx X cl e F1 H1 ca1 σ s1) (wk : WkG X cl gd J F1 ca1 xs) (q1 : rdK X.K cl e W σ F1 ca1 Q (compL gd t vs c f xs [] s1)) :
    tLc (fun _ H Z => Z J H) g (fun σ H Q => ∃ e', rdB X.K cl e' W0 c σ H Q) (fun σ H Q => ∃ e', rd X.K cl e' W0 f σ H Q) vs σ H1 Q := by
  intro Dl hD
  -- between two turns
  refine ⟨fun i m H => m = xs.length - i ∧ i ≤ xs.length ∧ ∃ F ca s acc va, Bx X cl e F H ca σ s ∧ Ex F1 F ∧ Pre ca1 ca ∧ H Dl = some (.lst va) ∧ IsL X.K cl F ca va acc ∧ F Dl = none ∧ Dl ∉ ca ∧ e.H0 Dl = none ∧ rdK X.K cl e W σ F ca Q (compL gd t vs c f (xs.drop i) acc s),
    ⟨xs.length, rfl, Nat.zero_le _, F1, ca1, s1, [], [], b1.laid hD, Ex.refl _, Pre.refl _, upd_same, .nil, b1.notF hD, b1.notca hD, b1.notH0 hD, q1⟩, ?_⟩
  rintro i m H2 ⟨rfl, hle, F2, ca2, s2, acc, va, b2, x2, p2, hDl, iacc, hF2, hc2, h02, q2⟩
  have hgd : gd s2 = true := by
    cases z : gd s2 with
    | true => rfl
    | false =>
      exfalso
      cases w : xs.drop i with
      | nil =>
        rw [w] at q2
        have q3 : rdK X.K cl e W σ F2 ca2 Q (if gd s2 = true then .nl acc s2 else .no) := q2
        rw [z, if_neg (by decide)] at q3
        exact q3
      | cons d ds =>
        rw [w] at q2
        unfold compL at q2
        rw [z, if_neg (by decide)] at q2
        exact q2
  obtain ⟨wstop, wgo⟩ := wk e F2 H2 ca2 σ s2 b2 x2 p2 hgd
  by_cases hlt : i < xs.length
  · have hd : xs[i]? = some xs[i] := List.getElem?_eq_getElem hlt
    obtain ⟨go1, go2⟩ := wgo i _ hd
    refine .inr ⟨go1, fun H' => ∃ F ca s acc va, Bx X cl e F H' ca σ s ∧ Ex F1 F ∧ Pre ca1 ca ∧ H' Dl = some (.lst va) ∧ IsL X.K cl F ca va acc ∧ F Dl = none ∧ Dl ∉ ca ∧ e.H0 Dl = none ∧ rdK X.K cl e W σ F ca Q (compL gd t vs c f (xs.drop (i + 1)) acc s),
      fun H' r => ⟨xs.length - (i + 1), by omega, rfl, hlt, r⟩, fun x H3 y => ?_⟩
    obtain ⟨F3, x3, fr3, xh3, b3, i3⟩ := go2 x H3 y
    have hDl3 := xh3 Dl _ hDl
    have hF3 := fr3 Dl _ hDl hF2
    rw [List.drop_eq_getElem_cons hlt] at q2
    unfold compL at q2
    rw [if_pos hgd] at q2
    have q3 : rdK X.K cl e W σ F2 ca2 Q (tgR (fun s1 => okB (c s1) fun b s3 => if b = true then okR (f s3) (fun x s4 => if acc.length < 100000 then compL gd t vs c f (xs.drop (i + 1)) (acc ++ [x]) (outS s2 s4) else .no) else compL gd t vs c f (xs.drop (i + 1)) acc (outS s2 s3)) (t xs[i] (inS vs s2))) := q2
    -- the block's start
    have bi : Bx X cl ⟨F3, H3, ca2⟩ F3 H3 ca2 (wipe σ vs) (inS vs s2) :=
      ⟨b3.fh, Ex.refl _, fun _ _ q _ => q, fun _ _ _ n => n, Pre.refl _, fun _ h => .inl h, b3.cel, by show (wipeD s2.sl vs).length = (wipe σ vs).length; rw [wipeD_len, wipe_length]; exact b3.len,
        fun k d hk => by
          obtain ⟨h1, h2⟩ := wipeD_some hk
          obtain ⟨v, h3, h4⟩ := b3.slo k d h1
          exact ⟨v, wipe_keep h2 h3, h4⟩, fun _ o q => ⟨o, q⟩, b3.cel.1⟩
    cases e1 : t xs[i] (inS vs s2) with
    | none =>
      rw [e1] at q3
      exact False.elim q3
    | some s3 =>
      rw [e1] at q3
      have q4 : rdK X.K cl e W σ F2 ca2 Q (okB (c s3) fun b s3 => if b = true then okR (f s3) (fun x s4 => if acc.length < 100000 then compL gd t vs c f (xs.drop (i + 1)) (acc ++ [x]) (outS s2 s4) else .no) else compL gd t vs c f (xs.drop (i + 1)) acc (outS s2 s3)) := q3
      refine hg ⟨F3, H3, ca2⟩ F3 H3 ca2 (wipe σ vs) (inS vs s2) s3 x _ bi i3 e1 _ fun σ' b4 l4 w4 => ?_
      refine ⟨?_, ⟨F3, H3, ca2⟩, F3, ca2, s3, b4, ?_⟩
      · refine wipe_ext (by rw [l4, wipe_length]) fun j hj => ?_
        rw [w4 j hj]
        have gen : ∀ (ρ : L2.St) (ws : List Nat), j ∉ ws → (wipe ρ ws)[j]? = ρ[j]? := by
          intro ρ ws
          induction ws with
          | nil => intro _; rfl
          | cons w ws ih =>
            intro hn
            unfold wipe
            rw [List.getElem?_set_ne (fun z => hn (by rw [z]; exact List.mem_cons_self))]
            exact ih fun z => hn (List.mem_cons_of_mem _ z)
        exact gen σ vs hj
      cases e2 : c s3 with
      | ok bb s4 =>
        rw [e2] at q4
        intro F5 H5 ca5 b5 x5 p5
        have keepD : H5 Dl = some (.lst va) := b5.keep Dl _ hDl3 hc2
        have keepF : F5 Dl = none := b5.free Dl _ hDl3 hF3
        have keepC : Dl ∉ ca5 := fun hm => by
          rcases b5.newc Dl hm with z | z
          · exact hc2 z
          · rw [show (Ent.H0 ⟨F3, H3, ca2⟩) Dl = H3 Dl from rfl, hDl3] at z
            cases z
        cases bb with
        | false =>
          rw [if_neg (by decide)]
          have q5 : rdK X.K cl e W σ F2 ca2 Q (compL gd t vs c f (xs.drop (i + 1)) acc (outS s2 s4)) := q4
          have xa := x3.trans x5
          exact ⟨F5, ca5, outS s2 s4, acc, va, b3.block b5, x2.trans xa, p2.trans p5, keepD, iacc.mono xa p5, keepF, keepC, h02, rdK.back xa p5 q5⟩
        | true =>
          rw [if_pos rfl]
          have q5 : rdK X.K cl e W σ F2 ca2 Q (okR (f s4) (fun x s4 => if acc.length < 100000 then compL gd t vs c f (xs.drop (i + 1)) (acc ++ [x]) (outS s2 s4) else .no)) := q4
          refine ⟨⟨F3, H3, ca2⟩, F5, ca5, s4, b5, ?_⟩
          cases e3 : f s4 with
          | ok d6 s6 =>
            rw [e3] at q5
            intro v6 F6 H6 ca6 b6 x6 p6 i6
            have q6 : rdK X.K cl e W σ F2 ca2 Q (if acc.length < 100000 then compL gd t vs c f (xs.drop (i + 1)) (acc ++ [d6]) (outS s2 s6) else .no) := q5
            by_cases hz : acc.length < 100000
            · rw [if_pos hz] at q6
              have keepD6 : H6 Dl = some (.lst va) := b6.keep Dl _ hDl3 hc2
              have keepF6 : F6 Dl = none := b6.free Dl _ hDl3 hF3
              have keepC6 : Dl ∉ ca6 := fun hm => by
                rcases b6.newc Dl hm with z | z
                · exact hc2 z
                · rw [show (Ent.H0 ⟨F3, H3, ca2⟩) Dl = H3 Dl from rfl, hDl3] at z
                  cases z
              have xa := (x3.trans x5).trans x6
              have pa := p5.trans p6
              have bb := b3.block b6
              have i7 := (iacc.mono xa pa).app (.one i6)
              refine ⟨va, keepD6, ?_, F6, ca6, outS s2 s6, acc ++ [d6], va ++ [v6], ?_, x2.trans xa, p2.trans pa, upd_same, i7, keepF6, keepC6, h02, rdK.back xa pa q6⟩
              · rw [iacc.length]
                exact Nat.lt_of_lt_of_le hz (by decide)
              · -- the list so far is nobody's: it may grow
                exact { fh := fun a o h => by rw [upd_ne (ne_of_none h keepF6)]; exact bb.fh a o h
                        exF := bb.exF
                        keep := fun a o h n => by rw [upd_ne (ne_of_none h h02)]; exact bb.keep a o h n
                        free := bb.free
                        pre := bb.pre
                        newc := bb.newc
                        cel := ⟨bb.cel.1, bb.cel.2.1, fun j a y h1 h2 => (bb.cel.2.2 j a y h1 h2).mono (Ex.refl _) id (upd_ne fun z => keepC6 (z ▸ List.mem_of_getElem? h1)) (Pre.refl _)⟩
                        len := bb.len
                        slo := bb.slo
                        hcl := fun a o h => by
                          obtain ⟨o', z⟩ := bb.hcl a o h
                          exact ⟨o', by rw [upd_ne (ne_of_none h h02)]; exact z⟩
                        n0 := bb.n0 }
            · rw [if_neg hz] at q6
              exact False.elim q6
          | _ =>
            rw [e3] at q5
            exact False.elim q5
      | _ =>
        rw [e2] at q4
        exact False.elim q4
  · have e1 : i = xs.length := by omega
    subst e1
    refine .inl ⟨wstop, ?_⟩
    rw [List.drop_length] at q2
    unfold compL at q2
    rw [if_pos hgd] at q2
    have q3 : rdK X.K cl e W σ F2 ca2 Q (.nl acc s2) := q2
    exact q3 (.ref Dl) F2 H2 ca2 b2 (Ex.refl _) (Pre.refl _) ⟨Dl, va, rfl, hDl, iacc, hF2, hc2, h02⟩
theorem rd_comp {wi : TI} {it : DI} {σ : L2.St} {H : Hp} {Q : VK} (hi : ItC X cl e W wi it) (hg : TgC X cl g t vs) (h : rd X.K cl e W (dComp it t vs c f) σ H Q) :
    tLc wi g (fun σ H Q => ∃ e', rdB X.K cl e' W0 c σ H Q) (fun σ H Q => ∃ e', rd X.K cl e' W0 f σ H Q) vs σ H Q := by
  obtain ⟨F, ca, s, b, q⟩ := h
  exact hi.run F H ca σ s Q _ _ b q fun J xs s1 F1 H1 ca1 b1 wk q1 => comp_core hg b1 wk q1
end
end Dv

set_option maxRecDepth 100000
set_option maxHeartbeats 4000000
/-! comprehensions as expressions; instances; own operators; stores -/
namespace Dv
open PySem PySem.Spec PyProof.Rows L2

section
variable {X : Cx} {cl : Cl} {e : Ent} {W : WX}
theorem pe_ex {x : Expr} {t : Ent → TE} (h : ∀ e', PE X x (t e')) : PE X x (fun σ H Q => ∃ e', t e' σ H Q) := ⟨fun pins s σ H Q I ⟨e', q⟩ => (h e').run pins s σ H Q I q⟩
theorem pt_ex {x : Expr} {t : Ent → TT} (h : ∀ e', PT X x (t e')) : PT X x (fun σ H Q => ∃ e', t e' σ H Q) := ⟨fun pins s σ H Q I ⟨e', q⟩ => (h e').run pins s σ H Q I q⟩
theorem pts_yes : PTs X [] (fun σ H Q => ∃ e', rdB X.K cl e' W0 bYes σ H Q) := by
  refine ⟨fun pins s σ H Q I h => ?_⟩
  obtain ⟨e', F, ca, s', b, q⟩ := h
  exact pts_nil.run pins s σ H Q I (q F H ca b (Ex.refl F) (Pre.refl ca))
theorem d_lc {elt tgx iter : Expr} {ifs : List Expr} {scope : Scope} {own : List (Str × Nat)} {pos : Pos} {wi : TI} {g : TG} {it : DI} {t : DT} {c : DB} {f : DE} (hi : ItC X cl e W wi it) (hg : TgC X cl g t (own.map (·.2)))
    (hp : PE X (.ListComp elt [⟨tgx, iter, ifs, 0⟩] scope pos) (tLc wi g (fun σ H Q => ∃ e', rdB X.K cl e' W0 c σ H Q) (fun σ H Q => ∃ e', rd X.K cl e' W0 f σ H Q) (own.map (·.2)))) :
    PEd X cl e W (.ListComp elt [⟨tgx, iter, ifs, 0⟩] scope pos) (dComp it t (own.map (·.2)) c f) := pe_w hp fun _ _ _ q => rd_comp hi hg q

/-! ### attributes -/
def instF (c0 : Nat) (ce : List Cell) : D → Option (List (Str × D))
  | .obj c fs => if c = c0 then some fs else none
  | .rf j => match ce[j]? with
    | some (.ins c fs) => if c = c0 then some fs else none
    | _ => none
  | _ => none
theorem inst_ok {c0 : Nat} {F H : Hp} {ca : List Addr} {σ : L2.St} {s : S} {v : V} {d : D} {fs : List (Str × D)} (b : Bx X cl e F H ca σ s) (i : Is X.K cl F ca v d) (q : instF c0 s.ce d = some fs) :
    ∃ a dx vs, v = .ref a ∧ H a = some (.ins (cl c0) dx vs) ∧ IsF X.K cl F ca vs fs := by
  cases i with
  | obj hl hi =>
    have q' : (if _ = c0 then some _ else none) = some fs := q
    split at q'
    · rename_i z
      cases q'
      subst z
      exact ⟨_, _, _, rfl, b.fh _ _ hl, hi⟩
    · cases q'
  | @rf a j hj =>
    obtain ⟨c, h1, h2⟩ := b.cel.at_ hj
    have q' : (match s.ce[j]? with
      | some (Cell.ins c fs) => if c = c0 then some fs else none
      | _ => none) = some fs := q
    rw [h1] at q'
    cases c with
    | ins c fs' =>
      have q2 : (if c = c0 then some fs' else none) = some fs := q'
      split at q2
      · rename_i z
        cases q2
        subst z
        obtain ⟨_, dx, vs, h3, h4⟩ := h2
        exact ⟨_, dx, vs, rfl, h3, h4⟩
      · cases q2
    | _ => cases q'
  | _ => cases q
theorem isF_look {F : Hp} {ca : List Addr} {f : Str} : ∀ {vs : List (Str × V)} {fs : List (Str × D)} {d : D}, IsF X.K cl F ca vs fs → fs.lookup f = some d → ∃ v, vs.lookup f = some v ∧ Is X.K cl F ca v d
  | _, _, _, .nil, q => by cases q
  | (k', v) :: vs, (_, x) :: fs, d, .cons i t, q => by
    rw [List.lookup_cons] at q ⊢
    cases z : (f == k') with
    | true =>
      rw [z] at q
      cases q
      exact ⟨v, rfl, i⟩
    | false =>
      rw [z] at q
      exact isF_look t q
theorem isF_none {F : Hp} {ca : List Addr} {f : Str} : ∀ {vs : List (Str × V)} {fs : List (Str × D)}, IsF X.K cl F ca vs fs → fs.lookup f = none → vs.lookup f = none
  | _, _, .nil, q => rfl
  | (k', v) :: vs, (_, x) :: fs, .cons i t, q => by
    rw [List.lookup_cons] at q ⊢
    cases z : (f == k') with
    | true =>
      rw [z] at q
      cases q
    | false =>
      rw [z] at q
      exact isF_none t q
theorem isF_len {F : Hp} {ca : List Addr} : ∀ {vs : List (Str × V)} {fs : List (Str × D)}, IsF X.K cl F ca vs fs → vs.length = fs.length
  | _, _, .nil => rfl
  | _, _, .cons _ t => by rw [List.length_cons, List.length_cons, isF_len t]
def fldK (f : Str) : Option (List (Str × D)) → Po
  | some fs => itemK (fs.lookup f)
  | none => .no
def pFld (c0 : Nat) (f : Str) (ce : List Cell) (d : D) : Po := fldK f (instF c0 ce d)
theorem d_fld {c0 : Nat} {a : Expr} {fe : DE} {f : Str} {pos : Pos} (ha : PEd X cl e W a fe) (hc : Cls X.K (cl c0)) (hn : NoAttr X.K (cl c0) f) (hb : attributeBase a f X.env (eval a X.env) = eval a X.env := by rfl) : PEd X cl e W (.Attribute a f pos) (dUn (pFld c0 f) fe) :=
  pe_w (pe_fld ha hb) fun σ H Q ⟨F, ca, s, b, q⟩ => by
    refine use_rd b q fun v d s1 F1 H1 ca1 b1 i1 x1 p1 q1 => ?_
    unfold pFld at q1
    cases e1 : instF c0 s1.ce d with
    | none =>
      rw [e1] at q1
      exact False.elim q1
    | some fs =>
      rw [e1] at q1
      have q2 : rdK X.K cl e W σ F1 ca1 Q (poK s1 (itemK (fs.lookup f))) := q1
      cases e2 : fs.lookup f with
      | none =>
        rw [e2] at q2
        exact False.elim q2
      | some d2 =>
        rw [e2] at q2
        obtain ⟨p, dx, vs, rfl, hH, hF⟩ := inst_ok b1 i1 e1
        obtain ⟨w, h1, h2⟩ := isF_look hF e2
        exact ⟨p, cl c0, dx, vs, w, rfl, hH, hc, hn, h1, q2 w F1 H1 ca1 b1 (Ex.refl F1) (Pre.refl ca1) h2⟩
/-- o.f = value -/
def putFD (f : Str) (d : D) : List (Str × D) → List (Str × D)
  | [] => [(f, d)]
  | (k, x) :: fs => if k = f then (k, d) :: fs else (k, x) :: putFD f d fs
theorem isF_put {F : Hp} {ca : List Addr} {f : Str} {v : V} {d : D} (i : Is X.K cl F ca v d) : ∀ {vs : List (Str × V)} {fs : List (Str × D)}, IsF X.K cl F ca vs fs → IsF X.K cl F ca (putF f v vs) (putFD f d fs)
  | _, _, .nil => .cons i .nil
  | _, (k, x) :: fs, .cons (vs := vs) (v := w) j t => by
    show IsF X.K cl F ca (if k = f then (k, v) :: vs else (k, w) :: putF f v vs) (if k = f then (k, d) :: fs else (k, x) :: putFD f d fs)
    split
    · exact .cons i t
    · exact .cons j (isF_put i t)
def setfK (c0 : Nat) (f : Str) (s : S) (d : D) : D → O
  | .rf j => match s.ce[j]? with
    | some (.ins c fs) => if c = c0 ∧ fs.length < 900 then .nx ⟨s.sl, s.ce.set j (.ins c (putFD f d fs)), s.n0⟩ else .no
    | _ => .no
  | _ => .no
def sSetF (c0 : Nat) (f : Str) (fo fv : DE) : DS := fun s => bindO (fv s) fun d s1 => bindO (fo s1) fun o s2 => setfK c0 f s2 d o
theorem s_fld {c0 : Nat} {st : Stmt} {fo fv : DE} {f : Str} (hc : Cls X.K (cl c0)) (hn : NoAttr X.K (cl c0) f) (hst : PS X st (sFld X.K (rd X.K cl e W fo) (rd X.K cl e W fv) f)) : PSd X cl e W st (sSetF c0 f fo fv) :=
  ps_w hst fun Dn σ H ⟨F, ca, s, b, q⟩ => by
    refine useS_rd b q fun v d s1 F1 H1 ca1 b1 i1 x1 p1 q1 => ?_
    refine useS_rd b1 q1 fun w o s2 F2 H2 ca2 b2 i2 x2 p2 q2 => ?_
    cases i2 with
    | @rf a j hj =>
      obtain ⟨c, h1, h2⟩ := b2.cel.at_ hj
      have q3 : rdSK X.K cl e W F2 ca2 Dn (match s2.ce[j]? with
        | some (Cell.ins c fs) => if c = c0 ∧ fs.length < 900 then .nx ⟨s2.sl, s2.ce.set j (.ins c (putFD f d fs)), s2.n0⟩ else .no
        | _ => .no) := q2
      rw [h1] at q3
      cases c with
      | ins c fs =>
        have q4 : rdSK X.K cl e W F2 ca2 Dn (if c = c0 ∧ fs.length < 900 then .nx ⟨s2.sl, s2.ce.set j (.ins c (putFD f d fs)), s2.n0⟩ else .no) := q3
        by_cases hz : c = c0 ∧ fs.length < 900
        · rw [if_pos hz] at q4
          obtain ⟨rfl, hz⟩ := hz
          obtain ⟨hF, dx, vs, hH, hi⟩ := h2
          refine ⟨a, cl c, dx, vs, rfl, hH, hc, hn, by rw [isF_len hi]; omega, ?_⟩
          exact q4 σ F2 _ ca2 (b2.write hj hF ⟨hF, dx, _, upd_same, isF_put (i1.mono x2 p2) hi⟩) (Ex.refl F2) (Pre.refl ca2)
        · rw [if_neg hz] at q4
          exact False.elim q4
      | _ => exact False.elim q3
    | _ => exact False.elim q2
/-- xs[i] = value -/
def setiK (s : S) (d : D) : D → D → O
  | .rf j, .int i => match cellL s.ce[j]? with
    | some xs => match ixN xs.length i with
      | some k => .nx ⟨s.sl, s.ce.set j (.lst (xs.set k d)), s.n0⟩
      | none => .no
    | none => .no
  | _, _ => .no
def sSetI (fo fi fv : DE) : DS := fun s => bindO (fv s) fun d s1 => bindO (fo s1) fun o s2 => bindO (fi s2) fun i s3 => setiK s3 d o i
theorem s_seti {st : Stmt} {fo fi fv : DE} (hst : PS X st (tAsg (rd X.K cl e W fv) (gSub (rd X.K cl e W fo) (rd X.K cl e W fi) rSetL))) : PSd X cl e W st (sSetI fo fi fv) :=
  ps_w hst fun Dn σ H ⟨F, ca, s, b, q⟩ => by
    refine useS_rd b q fun v d s1 F1 H1 ca1 b1 i1 x1 p1 q1 => ?_
    refine useS_rd b1 q1 fun w o s2 F2 H2 ca2 b2 i2 x2 p2 q2 => ?_
    refine useS_rd b2 q2 fun u ix s3 F3 H3 ca3 b3 i3 x3 p3 q3 => ?_
    cases o with
    | rf j =>
      cases i3 with
      | int k =>
        have q4 : rdSK X.K cl e W F3 ca3 Dn (match cellL s3.ce[j]? with
          | some xs => match ixN xs.length k with
            | some k => .nx ⟨s3.sl, s3.ce.set j (.lst (xs.set k d)), s3.n0⟩
            | none => .no
          | none => .no) := q3
        cases e1 : cellL s3.ce[j]? with
        | none =>
          rw [e1] at q4
          exact False.elim q4
        | some xs =>
          rw [e1] at q4
          have q5 : rdSK X.K cl e W F3 ca3 Dn (match ixN xs.length k with
            | some k => .nx ⟨s3.sl, s3.ce.set j (.lst (xs.set k d)), s3.n0⟩
            | none => .no) := q4
          obtain ⟨a, ws, rfl, ha, hH, hi, hF⟩ := cell_ok b3 (i2.mono x3 p3) (cellL_eq e1)
          cases e2 : ixN xs.length k with
          | none =>
            rw [e2] at q5
            exact False.elim q5
          | some n =>
            rw [e2] at q5
            refine ⟨a, ws, k, n, rfl, rfl, hH, by rw [hi.length]; exact e2, ?_⟩
            exact q5 σ F3 _ ca3 (b3.write ha hF ⟨hF, _, upd_same, hi.set (i1.mono (x2.trans x3) (p2.trans p3)) n⟩) (Ex.refl F3) (Pre.refl ca3)
      | _ => exact False.elim q3
    | _ => exact False.elim q3

/-! ### methods, properties, operators of the text's own classes -/
def ownK (c0 n : Nat) (m : Fn) (s : S) (ds : List D) : Option (List (Str × D)) → R
  | some _ => if ds.length = n then frK s (m ds s.ce) else .no
  | none => .no
/-- the first of ds is an instance of class c0 -/
def dOwn1 (c0 n : Nat) (m : Fn) (f : DE) : DE := fun s => bindR (f s) fun d s1 => ownK c0 n m s1 [d] (instF c0 s1.ce d)
def dOwn2 (c0 n : Nat) (m : Fn) (f g : DE) : DE := fun s => bindR (f s) fun d s1 => bindR (g s1) fun w s2 => ownK c0 n m s2 [d, w] (instF c0 s2.ce d)
theorem own_sp {c0 n : Nat} {m : Fn} {F H : Hp} {ca : List Addr} {σ : L2.St} {s : S} {Q : VK} {vs : List V} {ds : List D} {o : Option (List (Str × D))} (b : Bx X cl e F H ca σ s) (i : IsL X.K cl F ca vs ds) (q : rdK X.K cl e W σ F ca Q (ownK c0 n m s ds o)) :
    spD X.K cl n m vs H Q (WE W σ) ∧ ∃ fs, o = some fs := by
  cases o with
  | none => exact False.elim q
  | some fs =>
    have q' : rdK X.K cl e W σ F ca Q (if ds.length = n then frK s (m ds s.ce) else .no) := q
    by_cases hn : ds.length = n
    · rw [if_pos hn] at q'
      exact ⟨sp_of b (i.length.trans hn) i q', fs, rfl⟩
    · rw [if_neg hn] at q'
      exact False.elim q'
/-- what a def's run leaves is never NotImplemented -/
theorem back_ok {pins : List (Addr × Obj)} {σ : L2.St} {Q : VK} {u : Value} {s : Shared} (h : EP X pins σ Q u s) : PySem.W.CmpBack (fun u s => EP X pins σ Q u s) u s := by
  obtain ⟨v, H', I', r, q⟩ := h
  cases v with
  | non =>
    cases r
    exact ⟨.non, H', I', rfl, q⟩
  | bl z =>
    cases r
    exact ⟨.bl z, H', I', rfl, q⟩
  | int z =>
    obtain ⟨t, rfl⟩ := r
    exact ⟨.int z, H', I', ⟨t, rfl⟩, q⟩
  | str z =>
    obtain ⟨t, rfl⟩ := r
    exact ⟨.str z, H', I', ⟨t, rfl⟩, q⟩
  | byt z =>
    obtain ⟨t, rfl⟩ := r
    exact ⟨.byt z, H', I', ⟨t, rfl⟩, q⟩
  | flt z =>
    obtain ⟨t, rfl⟩ := r
    exact ⟨.flt z, H', I', ⟨t, rfl⟩, q⟩
  | ref z =>
    cases r
    exact ⟨.ref z, H', I', rfl, q⟩
  | ty z =>
    cases r
    exact ⟨.ty z, H', I', rfl, q⟩
variable {a b : Expr} {f g : DE} {c0 n k : Nat} {m : Fn} {fa : Addr} {fd : FuncData} {ps : List Str} {pos : Pos}
/-- a op b, both instances of the class -/
theorem d_binop {op : Operator} (Fo : FnOk X.prog X.w X.K X.mg X.base (L2.CX X.prog X.w) k fa fd ps (spD X.K cl n m)) (hr : Room k X.A) (hb : Binds X.K fd ps []) (tk : Takes X W)
    (hc : PySem.W.selfFirst X.K (cl c0) = true) (hs : PySem.W.findIn X.K (.ref (cl c0)) (PySem.dunder op.info.2) = some (some (.ref fa))) (hf : PySem.W.isFn X.K (.ref fa) = true)
    (ha : PEd X cl e W a f) (hbb : PEd X cl e W b g) : PEd X cl e W (.BinOp a op b pos) (fun s => bindR (f s) fun d s1 => bindR (g s1) fun w s2 => match instF c0 s2.ce w with
      | some _ => ownK c0 n m s2 [d, w] (instF c0 s2.ce d)
      | none => .no) := by
  refine ⟨fun pins s σ H Q I h => ?_⟩
  obtain ⟨F, ca, s0, b0, q⟩ := h
  refine wpAny_BinOp (thn (ha.run pins s σ H _ I (use_rd b0 q fun v d s1 F1 H1 ca1 b1 i1 x1 p1 q1 => (⟨d, s1, F1, ca1, b1, i1, q1⟩ : ∃ d s1 F1 ca1, Bx X cl e F1 H1 ca1 σ s1 ∧ Is X.K cl F1 ca1 v d ∧ rdK X.K cl e W σ F1 ca1 Q (bindR (g s1) fun w s2 => match instF c0 s2.ce w with
      | some _ => ownK c0 n m s2 [d, w] (instF c0 s2.ce d)
      | none => .no)))) fun u s1 ⟨v, H1, I1, r1, d, t1, F1, ca1, b1, i1, q1⟩ => ?_)
  refine thn (hbb.run pins s1 σ H1 _ I1 (use_rd b1 q1 fun v2 w t2 F2 H2 ca2 b2 i2 x2 p2 q2 => (⟨w, t2, F2, ca2, b2, i1.mono x2 p2, i2, q2⟩ : ∃ w t2 F2 ca2, Bx X cl e F2 H2 ca2 σ t2 ∧ Is X.K cl F2 ca2 v d ∧ Is X.K cl F2 ca2 v2 w ∧ rdK X.K cl e W σ F2 ca2 Q (match instF c0 t2.ce w with
      | some _ => ownK c0 n m t2 [d, w] (instF c0 t2.ce d)
      | none => .no)))) fun u2 s2 ⟨v2, H2, I2, r2, w, t2, F2, ca2, b2, j1, j2, q2⟩ => ?_
  cases e1 : instF c0 t2.ce w with
  | none =>
    rw [e1] at q2
    exact False.elim q2
  | some fw =>
    rw [e1] at q2
    obtain ⟨hsp, fs, e2⟩ := own_sp (o := instF c0 t2.ce d) b2 (.cons j1 (.one j2)) q2
    obtain ⟨p, dx, vs, rfl, hH, hi⟩ := inst_ok b2 j1 e2
    obtain ⟨p2, dx2, vs2, rfl, hH2, hi2⟩ := inst_ok b2 j2 e1
    obtain rfl : u = Value.ref p := r1
    obtain rfl : u2 = Value.ref p2 := r2
    obtain ⟨mA, J, _⟩ := ins_get I2.hok hH
    obtain ⟨mB, J', _⟩ := ins_get I2.hok hH2
    obtain ⟨od, J, _⟩ := J.look
    obtain ⟨od', J', _⟩ := J'.look
    obtain ⟨mm, hF⟩ := I2.fr
    refine PySem.W.binop_K hF I2.ok.mod.kin J J'.type hc hs hf ?_
    exact thn (run_fnS (E := WE W) (vs := [.ref p, .ref p2]) Fo hr hb (passAt tk σ) I2 (.cons rfl (.cons rfl .nil)) hsp) fun u3 s3 z => back_ok z
/-- ~a -/
theorem d_inv (Fo : FnOk X.prog X.w X.K X.mg X.base (L2.CX X.prog X.w) k fa fd ps (spD X.K cl n m)) (hr : Room k X.A) (hb : Binds X.K fd ps []) (tk : Takes X W)
    (hs : PySem.W.findIn X.K (.ref (cl c0)) "__invert__" = some (some (.ref fa))) (hf : PySem.W.isFn X.K (.ref fa) = true)
    (ha : PEd X cl e W a f) : PEd X cl e W (.UnaryOp .Invert a pos) (dOwn1 c0 n m f) := by
  refine ⟨fun pins s σ H Q I h => ?_⟩
  obtain ⟨F, ca, s0, b0, q⟩ := h
  refine UnaryOp_ (thn (ha.run pins s σ H _ I (use_rd b0 q fun v d s1 F1 H1 ca1 b1 i1 x1 p1 q1 => (⟨d, s1, F1, ca1, b1, i1, q1⟩ : ∃ d s1 F1 ca1, Bx X cl e F1 H1 ca1 σ s1 ∧ Is X.K cl F1 ca1 v d ∧ rdK X.K cl e W σ F1 ca1 Q (ownK c0 n m s1 [d] (instF c0 s1.ce d))))) fun u s1 ⟨v, H1, I1, r1, d, t1, F1, ca1, b1, i1, q1⟩ => ?_)
  obtain ⟨hsp, fs, e2⟩ := own_sp (o := instF c0 t1.ce d) b1 (.one i1) q1
  obtain ⟨p, dx, vs, rfl, hH, hi⟩ := inst_ok b1 i1 e2
  obtain rfl : u = Value.ref p := r1
  obtain ⟨mA, J, _⟩ := ins_get I1.hok hH
  obtain ⟨od, J, _⟩ := J.look
  obtain ⟨mm, hF⟩ := I1.fr
  exact PySem.W.ksp_inv hF I1.ok.mod.kin J hs hf (run_fnS (E := WE W) (vs := [.ref p]) Fo hr hb (passAt tk σ) I1 (.cons rfl .nil) hsp)
end
end Dv

set_option maxRecDepth 100000
set_option maxHeartbeats 4000000
/-! calls of an instance's own methods, properties, of the instance, of its class -/
namespace Dv
open PySem PySem.Spec PyProof.Rows L2

section
variable {K : PySem.W.Frag} {cl : Cl} {e : Ent} {F F' H H' : Hp} {ca : List Addr} {σ : L2.St} {s : S} {p : Addr} {c : Cell}
/-- the youngest cell is a cell no more -/
theorem B.uncell (b0 : B K cl e F H ca σ s) (b : B K cl e F' H' (ca ++ [p]) σ ⟨s.sl, s.ce ++ [c], s.n0⟩) : B K cl e F' H' ca σ s where
  fh := b.fh
  exF := b.exF
  keep := b.keep
  free := b.free
  pre := b0.pre
  newc := fun a ha => b.newc a (List.mem_append_left _ ha)
  cel := by
    refine ⟨b0.cel.1, b0.cel.2.1, fun j a x h1 h2 => ?_⟩
    have hj : j < s.ce.length := (List.getElem?_eq_some_iff.mp h2).1
    have z := b.cel.2.2 j a x (Pre.app ca [p] j a h1) (by
      show (s.ce ++ [c])[j]? = some x
      rw [List.getElem?_append_left hj]
      exact h2)
    exact z.down (Pre.app ca [p]) ((b0.cel.2.2 j a x h1 h2).low)
  len := b.len
  slo := fun i d q => by
    obtain ⟨v, h1, h2⟩ := b.slo i d q
    obtain ⟨_, _, h3⟩ := b0.slo i d q
    exact ⟨v, h1, h2.down (Pre.app ca [p]) h3.low⟩
  hcl := b.hcl
  n0 := b0.n0
end

/-- errors don't come -/
def noEr : R → R
  | .er _ _ => .no
  | r => r
def dProp (c0 n : Nat) (m : Fn) (f : DE) : DE := fun s => bindR (f s) fun d s1 => noEr (ownK c0 n m s1 [d] (instF c0 s1.ce d))
/-- o.m(..), o an instance of class c0 -/
def methK (c0 n : Nat) (nm : Str) (m : Fn) (d : D) (g : DA) (s : S) : Option (List (Str × D)) → R
  | some fs => if (fs.lookup nm).isNone = true then bindAR (g s) fun ds s2 => if ds.length + 1 = n then frK s2 (m (d :: ds) s2.ce) else .no else .no
  | none => .no
def dMeth (c0 n : Nat) (nm : Str) (m : Fn) (f : DE) (g : DA) : DE := fun s => bindR (f s) fun d s1 => methK c0 n nm m d g s1 (instF c0 s1.ce d)
/-- o(..), o an instance of class c0 -/
def dCallO (c0 n : Nat) (m : Fn) (f : DE) (g : DA) : DE := fun s => bindR (f s) fun d s1 => if (instF c0 s1.ce d).isSome = true then bindAR (g s1) fun ds s2 => ownK c0 n m s2 (d :: ds) (instF c0 s2.ce d) else .no
/-- what __init__ leaves: the attributes, or an error -/
inductive FI where
  | ok (fs : List (Str × D))
  | er (x : Xc)
  | no
abbrev MkFn := List D → List Cell → FI
/-- __init__ by its function m does what mk says of the other arguments -/
def MkOk (c0 : Nat) (m : Fn) (mk : MkFn) : Prop := ∀ ds ce, match mk ds ce with
  | .ok fs => m (.rf ce.length :: ds) (ce ++ [.ins c0 []]) = .ok .non (ce ++ [.ins c0 fs]) ∧ lowF ce.length fs = true
  | .er x => x.fs = [] ∧ ∃ c, m (.rf ce.length :: ds) (ce ++ [.ins c0 []]) = .er x (ce ++ [c])
  | .no => True
def fiK (c0 : Nat) (s : S) : FI → R
  | .ok fs => .ni c0 fs s
  | .er x => .er x s
  | .no => .no
def dMake (c0 n : Nat) (mk : MkFn) (g : DA) : DE := fun s => bindAR (g s) fun ds s1 => if ds.length + 1 = n then fiK c0 s1 (mk ds s1.ce) else .no
section
variable {X : Cx} {cl : Cl} {e : Ent} {W : WX}
theorem noEr_w {F : Hp} {ca : List Addr} {σ : L2.St} {Q : VK} {r : R} (h : rdK X.K cl e W σ F ca Q (noEr r)) : rdK X.K cl e W0 σ F ca Q r := by
  cases r with
  | er x s => exact False.elim h
  | _ => exact h
variable {a o : Expr} {es : List Expr} {f : DE} {ga : DA} {c0 n k : Nat} {m : Fn} {fa pa : Addr} {fd : FuncData} {ps : List Str} {pos apos p : Pos} {nm : Str}
/-- e.f, a property of the text's class -/
theorem d_prop (Fo : FnOk X.prog X.w X.K X.mg X.base (L2.CX X.prog X.w) k fa fd ps (spD X.K cl n m)) (hr : Room (k + 1) X.A) (hb : Binds X.K fd ps []) (hc : Cls X.K (cl c0)) (hp : PropOf X.K (cl c0) nm pa fa)
    (ha : PEd X cl e W a f) (hab : attributeBase a nm X.env (eval a X.env) = eval a X.env := by rfl) : PEd X cl e W (.Attribute a nm pos) (dProp c0 n m f) :=
  pe_w (pe_prop (sp := spD X.K cl n m) (dvs := []) (ds := []) (E := fun _ _ _ => False) ha hc hp Fo hr hb .nil (fun pins σ H s er s' I c => passAt (X := X.nox) takesW0 σ pins H s er s' I c) hab) fun σ H Q ⟨F, ca, s, b, q⟩ => by
    refine use_rd b q fun v d s1 F1 H1 ca1 b1 i1 x1 p1 q1 => ?_
    obtain ⟨hsp, fs, e2⟩ := own_sp b1 (.one i1) (noEr_w q1)
    obtain ⟨q, dx, vs, rfl, hH, hi⟩ := inst_ok b1 i1 e2
    exact ⟨q, dx, vs, rfl, hH, hsp⟩
/-- o.m(e, ..), o an instance of the text's class -/
theorem d_meth {pl : Sem Bool} (Fo : FnOk X.prog X.w X.K X.mg X.base (L2.CX X.prog X.w) k fa fd ps (spD X.K cl n m)) (hr : Room k X.A) (hb : Binds X.K fd ps []) (tk : Takes X W) (hc : Cls X.K (cl c0)) (hm : Meth X.K (cl c0) nm fa)
    (ho : PEd X cl e W o f) (ha : PAd X cl e W (a :: es) ga) (hst : starEach (a :: es) X.env = (false, eval a X.env) :: starEach es X.env := by rfl) (hpl : (backTo pos (starEach es X.env)).any (·.1) = false := by rfl)
    (ht : eval (.Call (.Attribute o nm apos) (a :: es) [] pos) X.env = (eval o X.env >>= fun ov => standAt apos.atName >>= fun _ => holding [ov] (getMethod ov nm pl) >>= fun z => callWith pos z.1 z.2 (backTo pos (starEach (a :: es) X.env)) (backToKw pos (keywordEach [] X.env))) := by rfl) :
    PEd X cl e W (.Call (.Attribute o nm apos) (a :: es) [] pos) (dMeth c0 n nm m f ga) := by
  refine ⟨fun pins s σ H Q I h => ?_⟩
  obtain ⟨F, ca, s0, b0, q⟩ := h
  refine PySem.W.methodCall_KW (pl := pl) (thn (ho.run pins s σ H _ I (use_rd b0 q fun v d s1 F1 H1 ca1 b1 i1 x1 p1 q1 => (⟨d, s1, F1, ca1, b1, i1, q1⟩ : ∃ d s1 F1 ca1, Bx X cl e F1 H1 ca1 σ s1 ∧ Is X.K cl F1 ca1 v d ∧ rdK X.K cl e W σ F1 ca1 Q (methK c0 n nm m d ga s1 (instF c0 s1.ce d))))) fun u s1 ⟨v, H1, I1, r1, d, t1, F1, ca1, b1, i1, q1⟩ => ?_) ht
  cases e1 : instF c0 t1.ce d with
  | none =>
    rw [e1] at q1
    exact False.elim q1
  | some fs =>
    rw [e1] at q1
    have q2 : rdK X.K cl e W σ F1 ca1 Q (if (fs.lookup nm).isNone = true then bindAR (ga t1) fun ds s2 => if ds.length + 1 = n then frK s2 (m (d :: ds) s2.ce) else .no else .no) := q1
    by_cases hz : (fs.lookup nm).isNone = true
    · rw [if_pos hz] at q2
      obtain ⟨q, dx, vs, rfl, hH, hi⟩ := inst_ok b1 i1 e1
      obtain rfl : u = Value.ref q := r1
      refine getmeth_ok I1 hH hc hm (isF_none hi (Option.isNone_iff_eq_none.mp hz)) ?_
      refine PySem.W.callWith_K (first := [.ref q]) (h₀ := X.base) I.ok.mod.kin hm.kp (thn (ha.run pos pins s1 σ H1 _ I1 (use_rdA b1 q2 fun vs ds s2 F2 H2 ca2 b2 i2 x2 p2 q3 => (⟨ds, s2, F2, ca2, b2, i1.mono x2 p2, i2, q3⟩ : ∃ ds s2 F2 ca2, Bx X cl e F2 H2 ca2 σ s2 ∧ Is X.K cl F2 ca2 (.ref q) d ∧ IsL X.K cl F2 ca2 vs ds ∧ rdK X.K cl e W σ F2 ca2 Q (if ds.length + 1 = n then frK s2 (m (d :: ds) s2.ce) else .no)))) fun us s2 ⟨vs, H2, I2, r2, ds, t2, F2, ca2, b2, j1, j2, q3⟩ => ⟨I2.kIn, ?_⟩) hst hpl
      by_cases hn : ds.length + 1 = n
      · rw [if_pos hn] at q3
        exact run_fnS (E := WE W) (us := .ref q :: us) (vs := .ref q :: vs) Fo hr hb (passAt tk σ) I2 (.cons rfl r2) (sp_of b2 (by rw [List.length_cons, j2.length]; exact hn) (.cons j1 j2) q3)
      · rw [if_neg hn] at q3
        exact False.elim q3
    · rw [if_neg hz] at q2
      exact False.elim q2
/-- o.m() -/
theorem d_meth0 {pl : Sem Bool} (Fo : FnOk X.prog X.w X.K X.mg X.base (L2.CX X.prog X.w) k fa fd ps (spD X.K cl n m)) (hr : Room k X.A) (hb : Binds X.K fd ps []) (tk : Takes X W) (hc : Cls X.K (cl c0)) (hm : Meth X.K (cl c0) nm fa)
    (ho : PEd X cl e W o f)
    (ht : eval (.Call (.Attribute o nm apos) [] [] pos) X.env = (eval o X.env >>= fun ov => standAt apos.atName >>= fun _ => holding [ov] (getMethod ov nm pl) >>= fun z => callWith pos z.1 z.2 (backTo pos (starEach [] X.env)) (backToKw pos (keywordEach [] X.env))) := by rfl) :
    PEd X cl e W (.Call (.Attribute o nm apos) [] [] pos) (dMeth c0 n nm m f aNil) := by
  refine ⟨fun pins s σ H Q I h => ?_⟩
  obtain ⟨F, ca, s0, b0, q⟩ := h
  refine PySem.W.methodCall_KW (pl := pl) (thn (ho.run pins s σ H _ I (use_rd b0 q fun v d s1 F1 H1 ca1 b1 i1 x1 p1 q1 => (⟨d, s1, F1, ca1, b1, i1, q1⟩ : ∃ d s1 F1 ca1, Bx X cl e F1 H1 ca1 σ s1 ∧ Is X.K cl F1 ca1 v d ∧ rdK X.K cl e W σ F1 ca1 Q (methK c0 n nm m d aNil s1 (instF c0 s1.ce d))))) fun u s1 ⟨v, H1, I1, r1, d, t1, F1, ca1, b1, i1, q1⟩ => ?_) ht
  cases e1 : instF c0 t1.ce d with
  | none =>
    rw [e1] at q1
    exact False.elim q1
  | some fs =>
    rw [e1] at q1
    have q2 : rdK X.K cl e W σ F1 ca1 Q (if (fs.lookup nm).isNone = true then (if 0 + 1 = n then frK t1 (m [d] t1.ce) else .no) else .no) := q1
    by_cases hz : (fs.lookup nm).isNone = true
    · rw [if_pos hz] at q2
      obtain ⟨q, dx, vs, rfl, hH, hi⟩ := inst_ok b1 i1 e1
      obtain rfl : u = Value.ref q := r1
      refine getmeth_ok I1 hH hc hm (isF_none hi (Option.isNone_iff_eq_none.mp hz)) ?_
      by_cases hn : 0 + 1 = n
      · rw [if_pos hn] at q2
        exact PySem.W.callWith_K0 (first := [.ref q]) I1.kIn hm.kp (run_fnS (E := WE W) (us := [.ref q]) (vs := [.ref q]) Fo hr hb (passAt tk σ) I1 (.cons rfl .nil) (sp_of b1 hn (.one i1) q2))
      · rw [if_neg hn] at q2
        exact False.elim q2
    · rw [if_neg hz] at q2
      exact False.elim q2
/-- a def's run by its promise, as code -/
theorem code_fnS {pins : List (Addr × Obj)} {σ : L2.St} {H : Hp} {s : Shared} {Q : VK} {us : List Value} {vs : List V} {sp : Sp} {E : L2.St → XK} (Fo : FnOk X.prog X.w X.K X.mg X.base (L2.CX X.prog X.w) k fa fd ps sp) (hr : Room k X.A) (hb : Binds X.K fd ps []) (hx : PassesAt (L2.CX X.prog X.w) X σ (E σ))
    (I : Inv X pins σ H s) (r : Vals vs us) (h : sp vs H Q (E σ)) : codeAny (model X.prog X.w) X.A (.call (.ref fa) ⟨us, []⟩) (fun r s' => match r with | .ok (.ret v) => EP X pins σ Q v s' | .ok _ => False | .error e => X.xe e s') s := by
  have hl : (us ++ []).length = ps.length := (congrArg List.length (List.append_nil us)).trans (r.length.symm.trans (Fo.len _ _ _ _ h))
  have b := hb s us I.kIn hl
  rw [List.append_nil] at b
  refine codeAny_mono (Fo.run X.A X.stack s H ⟨us, []⟩ us vs Q (E σ) hr I.env0 b r h) fun r s' hq => ?_
  cases r with
  | ok fl => cases fl with
    | ret u => exact I.after hq
    | _ => exact False.elim hq
  | error er => exact hx pins H s er s' I hq
/-- o(e, ..) -/
theorem d_callo (Fo : FnOk X.prog X.w X.K X.mg X.base (L2.CX X.prog X.w) k fa fd ps (spD X.K cl n m)) (hr : Room k X.A) (hb : Binds X.K fd ps []) (tk : Takes X W) (c : StX.CallO X.K (cl c0) fa)
    (ho : PEd X cl e W o f) (ha : PAd X cl e W (a :: es) ga)
    (ht : eval (.Call o (a :: es) [] pos) X.env = (eval o X.env >>= fun z => callWith pos z [] (backTo pos (starEach (a :: es) X.env)) (backToKw pos (keywordEach [] X.env))) := by rfl)
    (hst : starEach (a :: es) X.env = (false, eval a X.env) :: starEach es X.env := by rfl) (hpl : (backTo pos (starEach es X.env)).any (·.1) = false := by rfl) :
    PEd X cl e W (.Call o (a :: es) [] pos) (dCallO c0 n m f ga) := by
  refine ⟨fun pins s σ H Q I h => ?_⟩
  obtain ⟨F, ca, s0, b0, q⟩ := h
  refine Call_ (thn (ho.run pins s σ H _ I (use_rd b0 q fun v d s1 F1 H1 ca1 b1 i1 x1 p1 q1 => (⟨d, s1, F1, ca1, b1, i1, q1⟩ : ∃ d s1 F1 ca1, Bx X cl e F1 H1 ca1 σ s1 ∧ Is X.K cl F1 ca1 v d ∧ rdK X.K cl e W σ F1 ca1 Q (if (instF c0 s1.ce d).isSome = true then bindAR (ga s1) fun ds s2 => ownK c0 n m s2 (d :: ds) (instF c0 s2.ce d) else .no)))) fun u s1 ⟨v, H1, I1, r1, d, t1, F1, ca1, b1, i1, q1⟩ => ?_) ht
  by_cases hz : (instF c0 t1.ce d).isSome = true
  · rw [if_pos hz] at q1
    obtain ⟨fs, e1⟩ := Option.isSome_iff_exists.mp hz
    obtain ⟨q, dx, vs, rfl, hH, hi⟩ := inst_ok b1 i1 e1
    obtain rfl : u = Value.ref q := r1
    refine StX.callO_with (thn (ha.run pos pins s1 σ H1 _ I1 (use_rdA b1 q1 fun vs ds s2 F2 H2 ca2 b2 i2 x2 p2 q3 => (⟨ds, s2, F2, ca2, b2, i1.mono x2 p2, i2, q3⟩ : ∃ ds s2 F2 ca2, Bx X cl e F2 H2 ca2 σ s2 ∧ Is X.K cl F2 ca2 (.ref q) d ∧ IsL X.K cl F2 ca2 vs ds ∧ rdK X.K cl e W σ F2 ca2 Q (ownK c0 n m s2 (d :: ds) (instF c0 s2.ce d))))) fun us s2 ⟨vs, H2, I2, r2, ds, t2, F2, ca2, b2, j1, j2, q3⟩ => ?_) hst hpl
    obtain ⟨hsp, fs2, e2⟩ := own_sp b2 (.cons j1 j2) q3
    obtain ⟨q', dx2, vs2, eq, hH2, hi2⟩ := inst_ok b2 j1 e2
    cases eq
    obtain ⟨ox, od, J, hd⟩ := StX.insC_at (C := cl c0) I2 (.inr ⟨dx2, vs2, hH2⟩)
    refine ⟨⟨cl c0, ox, od, J, hd⟩, ?_⟩
    refine wpAny_call (PySem.W.kco_code I2.kIn J hd c.at_ c.fn c.fi ?_)
    exact code_fnS (E := WE W) (us := .ref q :: us) (vs := .ref q :: vs) Fo hr hb (passAt tk σ) I2 (.cons rfl r2) hsp
  · rw [if_neg hz] at q1
    exact False.elim q1
end
end Dv

set_option maxRecDepth 100000
set_option maxHeartbeats 4000000
/-! new instances; ==; isinstance -/
namespace Dv
open PySem PySem.Spec PyProof.Rows L2
section
variable {X : Cx} {cl : Cl} {e : Ent} {W : WX}
variable {a b : Expr} {es : List Expr} {f g : DE} {ga : DA} {c0 n k : Nat} {m : Fn} {mk : MkFn} {fa : Addr} {fd : FuncData} {ps : List Str} {pos p : Pos} {x : Str}
theorem Pre.same {a b : List Addr} (p : Pre a b) (h : b.length = a.length) : b = a := by
  apply List.ext_getElem?
  intro j
  cases e : a[j]? with
  | some x => exact p j x e
  | none => exact List.getElem?_eq_none (by rw [h]; exact List.getElem?_eq_none_iff.mp e)
theorem make_sp {F H : Hp} {ca : List Addr} {σ : L2.St} {s : S} {Q : VK} {vs : List V} {ds : List D} {y dx : Addr} (mo : MkOk c0 m mk) (b : Bx X cl e F H ca σ s) (i : IsL X.K cl F ca vs ds) (hn : ds.length + 1 = n) (q : rdK X.K cl e W σ F ca Q (fiK c0 s (mk ds s.ce)))
    (hy : H y = none) (hd : H dx = none) (ne : dx ≠ y) :
    spD X.K cl n m (.ref y :: vs) (upd (upd H dx (.own y)) y (.ins (cl c0) dx [])) (fun v H2 => v = .non ∧ Q (.ref y) H2) (WE W σ) := by
  have hy' : upd H dx (.own y) y = none := by
    rw [upd_ne (Ne.symm ne)]
    exact hy
  have b1 : Bx X cl e F (upd (upd H dx (.own y)) y (.ins (cl c0) dx [])) (ca ++ [y]) σ ⟨s.sl, s.ce ++ [.ins c0 []], s.n0⟩ :=
    ((b.laid hd).laid hy').cell (c := .ins c0 []) ⟨b.notF hy, dx, [], upd_same, .nil⟩ (b.notca hy) (b.notH0 hy)
  refine ⟨by rw [List.length_cons, i.length]; exact hn, F, ca ++ [y], s.ce ++ [.ins c0 []], .rf s.ce.length :: ds, b1.fh, b1.cel, .cons (.rf (pre_last b.cel.1)) (i.mono (Ex.refl F) (Pre.app ca [y])), ?_⟩
  have mo' := mo ds s.ce
  cases e1 : mk ds s.ce with
  | no =>
    rw [e1] at q
    exact False.elim q
  | ok fs =>
    rw [e1] at q mo'
    obtain ⟨mo1, hlow⟩ := mo'
    rw [mo1]
    intro v F' H' ca' af iv
    cases iv
    refine ⟨rfl, ?_⟩
    have eca : ca' = ca ++ [y] := af.pre.same (by
      have h1 := af.cel.1
      have h2 := b.cel.1
      rw [h1]
      simp
      omega)
    subst eca
    have b2 := b1.after af
    obtain ⟨hF, dx', ws, hH, hi⟩ := b2.cel.2.2 s.ce.length y (.ins c0 fs) (pre_last b.cel.1) (by simp)
    exact q (.ref y) F' H' ca (b.uncell b2) af.ex (Pre.refl ca) ⟨y, dx', ws, rfl, hH, hi.down (Pre.app ca [y]) (by rw [b.cel.1]; exact hlow), hF, b.notca hy, b.notH0 hy⟩
  | er xc =>
    rw [e1] at q mo'
    obtain ⟨hfs, c, mo1⟩ := mo'
    rw [mo1]
    intro cls dd F' H' af xo
    have b2 := b1.after af
    refine q cls dd F' H' ca (b.uncell b2) af.ex (Pre.refl ca) ⟨xo.1, ?_⟩
    have z := xo.2
    rw [hfs] at z ⊢
    exact z
/-- C(e, ..), C a class of the text -/
theorem d_make (M : Mk X.K (cl c0) fa) (Fo : FnOk X.prog X.w X.K X.mg X.base (L2.CX X.prog X.w) k fa fd ps (spD X.K cl n m)) (mo : MkOk c0 m mk) (hr : Room (k + 1) X.A) (hg : Gl X x) (hm : X.mg x = some (.ref (cl c0))) (hb : Binds X.K fd ps []) (tk : Takes X W)
    (ha : PAd X cl e W (a :: es) ga) (hdb : (x == ("__debug__" : Str)) = false := by decide) (hst : starEach (a :: es) X.env = (false, eval a X.env) :: starEach es X.env := by rfl) (hpl : (backTo pos (starEach es X.env)).any (·.1) = false := by rfl) :
    PEd X cl e W (.Call (.Name x p) (a :: es) [] pos) (dMake c0 n mk ga) := by
  refine ⟨fun pins s σ H Q I h => ?_⟩
  obtain ⟨F, ca, s0, b0, q⟩ := h
  refine wpAny_Call_Name_kw (ld_glob I hg hm ?_ hdb)
  refine PySem.W.callWith_K (h₀ := X.base) I.ok.mod.kin M.kp (thn (ha.run pos pins s σ H _ I (use_rdA b0 q fun vs ds s1 F1 H1 ca1 b1 i1 x1 p1 q1 => (⟨ds, s1, F1, ca1, b1, i1, q1⟩ : ∃ ds s1 F1 ca1, Bx X cl e F1 H1 ca1 σ s1 ∧ IsL X.K cl F1 ca1 vs ds ∧ rdK X.K cl e W σ F1 ca1 Q (if ds.length + 1 = n then fiK c0 s1 (mk ds s1.ce) else .no)))) fun us s1 ⟨vs, H1, I1, r, ds, t1, F1, ca1, b1, i1, q1⟩ => ⟨I1.kIn, ?_⟩) hst hpl
  by_cases hn : ds.length + 1 = n
  · rw [if_pos hn] at q1
    have fy := I1.hok.fresh (Nat.le_succ s1.heap.objs.size)
    have fx := I1.hok.fresh (Nat.le_refl s1.heap.objs.size)
    have hsp := make_sp (dx := s1.heap.objs.size) (y := s1.heap.objs.size + 1) mo b1 i1 hn q1 fy fx (Nat.ne_of_lt (Nat.lt_succ_self _))
    have I2 := Inv.made (C := cl c0) I1
    have r2 : Vals (V.ref (s1.heap.objs.size + 1) :: vs) (Value.ref (s1.heap.objs.size + 1) :: us) := .cons rfl r
    have hl : ((Value.ref (s1.heap.objs.size + 1) :: us) ++ []).length = ps.length := (congrArg List.length (List.append_nil _)).trans (r2.length.symm.trans (Fo.len _ _ _ _ hsp))
    have bd := hb _ (Value.ref (s1.heap.objs.size + 1) :: us) I2.kIn hl
    rw [List.append_nil] at bd
    refine wpAny_call (make_map (f := fa) I1.kIn M.makes M.init (beq_iff_eq.mp M.fn) (codeAny_mono (Fo.run _ X.stack _ _ ⟨Value.ref (s1.heap.objs.size + 1) :: us, []⟩ _ _ _ (WE W σ) (hr.make (cl c0) us []) (I2.env0.make (cl c0) us []) bd r2 hsp) fun r s' hq => ?_))
    cases r with
    | ok fl => cases fl with
      | ret u =>
        obtain ⟨v, H', I3, rv, ev, q3⟩ := I2.after hq
        subst ev
        exact ⟨rv, V.ref (s1.heap.objs.size + 1), H', I3, rfl, q3⟩
      | _ => exact False.elim hq
    | error er => exact passAt tk σ pins _ _ er s' I2 hq
  · rw [if_neg hn] at q1
    exact False.elim q1

/-! ### a == b, both instances of the class -/
def dEqO (c0 n : Nat) (m : Fn) (f g : DE) : DE := fun s => bindR (f s) fun d s1 => bindR (g s1) fun w s2 => match instF c0 s2.ce w with
  | some _ => ownK c0 n m s2 [d, w] (instF c0 s2.ce d)
  | none => .no
theorem p_eqO (Fo : FnOk X.prog X.w X.K X.mg X.base (L2.CX X.prog X.w) k fa fd ps (spD X.K cl n m)) (hr : Room k X.A) (hb : Binds X.K fd ps []) (tk : Takes X W)
    (hn : PySem.W.notFirst X.K (cl c0) (.ref (cl c0)) = true) (hs : PySem.W.findIn X.K (.ref (cl c0)) "__eq__" = some (some (.ref fa))) (hf : PySem.W.isFn X.K (.ref fa) = true)
    (ha : PEd X cl e W a f) (hbb : PEd X cl e W b g) : PC X .Eq a b (rd X.K cl e W (dEqO c0 n m f g)) := by
  refine ⟨fun pins s σ H Q I h => ?_⟩
  obtain ⟨F, ca, s0, b0, q⟩ := h
  refine thn (ha.run pins s σ H _ I (use_rd b0 q fun v d s1 F1 H1 ca1 b1 i1 x1 p1 q1 => (⟨d, s1, F1, ca1, b1, i1, q1⟩ : ∃ d s1 F1 ca1, Bx X cl e F1 H1 ca1 σ s1 ∧ Is X.K cl F1 ca1 v d ∧ rdK X.K cl e W σ F1 ca1 Q (bindR (g s1) fun w s2 => match instF c0 s2.ce w with
      | some _ => ownK c0 n m s2 [d, w] (instF c0 s2.ce d)
      | none => .no)))) fun u s1 ⟨v, H1, I1, r1, d, t1, F1, ca1, b1, i1, q1⟩ => ?_
  refine thn (hbb.run pins s1 σ H1 _ I1 (use_rd b1 q1 fun v2 w t2 F2 H2 ca2 b2 i2 x2 p2 q2 => (⟨w, t2, F2, ca2, b2, i1.mono x2 p2, i2, q2⟩ : ∃ w t2 F2 ca2, Bx X cl e F2 H2 ca2 σ t2 ∧ Is X.K cl F2 ca2 v d ∧ Is X.K cl F2 ca2 v2 w ∧ rdK X.K cl e W σ F2 ca2 Q (match instF c0 t2.ce w with
      | some _ => ownK c0 n m t2 [d, w] (instF c0 t2.ce d)
      | none => .no)))) fun u2 s2 ⟨v2, H2, I2, r2, w, t2, F2, ca2, b2, j1, j2, q2⟩ => ?_
  cases e1 : instF c0 t2.ce w with
  | none =>
    rw [e1] at q2
    exact False.elim q2
  | some fw =>
    rw [e1] at q2
    obtain ⟨hsp, fs, e2⟩ := own_sp (o := instF c0 t2.ce d) b2 (.cons j1 (.one j2)) q2
    obtain ⟨p, dx, vs, rfl, hH, hi⟩ := inst_ok b2 j1 e2
    obtain ⟨p2, dx2, vs2, rfl, hH2, hi2⟩ := inst_ok b2 j2 e1
    obtain rfl : u = Value.ref p := r1
    obtain rfl : u2 = Value.ref p2 := r2
    obtain ⟨mA, J, _⟩ := ins_get I2.hok hH
    obtain ⟨mB, J', _⟩ := ins_get I2.hok hH2
    obtain ⟨od, J, _⟩ := J.look
    obtain ⟨od', J', _⟩ := J'.look
    obtain ⟨mm, hF⟩ := I2.fr
    exact PySem.W.cmp_K (op := .Eq) (by have := hr.un; omega) hF I2.ok.mod.kin J J'.type hn hs hf (thn (run_fnS (E := WE W) (vs := [.ref p, .ref p2]) Fo hr hb (passAt tk σ) I2 (.cons rfl (.cons rfl .nil)) hsp) fun u3 s3 z => back_ok z)
/-! ### isinstance -/
inductive TyT where
  | non | bl | int | str | lst | tup | own (c : Nat)
def valT (cl : Cl) : TyT → Value
  | .non => .type "NoneType"
  | .bl => .type "bool"
  | .int => .type "int"
  | .str => .type "str"
  | .lst => .type "list"
  | .tup => .type "tuple"
  | .own c => .ref (cl c)
def tyC : Option Cell → Option TyT
  | some (.lst _) => some .lst
  | some (.ins c _) => some (.own c)
  | _ => none
def tyD (ce : List Cell) : D → Option TyT
  | .non => some .non
  | .bl _ => some .bl
  | .int _ => some .int
  | .str _ => some .str
  | .lst _ => some .lst
  | .tup _ => some .tup
  | .obj c _ => some (.own c)
  | .rf j => tyC ce[j]?
  | .ro _ => some .lst
  | .xc _ _ => none
/-- an own class that may be asked for -/
structure OwnTy (K : PySem.W.Frag) (C : Addr) : Prop where
  c : Cls K C
  ha : PySem.W.findIn K (.ref C) "__class__" = some (some (.builtin "object.__class__"))
  hn : PySem.W.specialIn K (.builtin "object.__class__") "__get__" = some (some (.builtin "getset_descriptor.__get__"))
  ht : PySem.W.takesIn K (.builtin "object.__class__") = some true
  hm : PySem.W.mroIn K C (.type "object") = some true
theorem tyD_ok {F H : Hp} {ca : List Addr} {σ : L2.St} {s : S} {v : V} {d : D} {t : TyT} (ow : ∀ c, t = .own c → OwnTy X.K (cl c)) (b : Bx X cl e F H ca σ s) (i : Is X.K cl F ca v d) (q : tyD s.ce d = some t) : TyX X.K H v (valT cl t) := by
  cases i with
  | non =>
    cases q
    exact .base .non
  | bl z =>
    cases q
    exact .base (.bl z)
  | int z =>
    cases q
    exact .base (.int z)
  | str z =>
    cases q
    exact .base (.str z)
  | lst hl hi =>
    cases q
    exact .base (.lst (b.fh _ _ hl))
  | ro hl hi =>
    cases q
    rcases ex_l b.fh hl with (z | ⟨o, z⟩) | z
    · exact .base (.lst z)
    · exact .base (.frz z)
    · obtain ⟨_, _, _, z, z2, _⟩ := z
      exact .kList z z2
  | tup hl hi =>
    cases q
    rcases ex_t b.fh hl with (z | ⟨o, z⟩) | z
    · exact .base (.tup z)
    · exact .fTuple z
    · obtain ⟨_, _, _, z, z2, _⟩ := z
      exact .kTuple z z2
  | xc0 hl => cases q
  | xcf hl hg hi => cases q
  | obj hl hi =>
    cases q
    have z := ow _ rfl
    exact .base (.ins (b.fh _ _ hl) z.c z.ha z.hn z.ht z.hm)
  | rf hj =>
    obtain ⟨c, h1, h2⟩ := b.cel.at_ hj
    have q' : tyC s.ce[_]? = some t := q
    rw [h1] at q'
    cases c with
    | lst xs =>
      cases q'
      obtain ⟨_, vs, h3, _⟩ := h2
      exact .base (.lst h3)
    | ins c fs =>
      cases q'
      obtain ⟨_, dx, vs, h3, _⟩ := h2
      have z := ow _ rfl
      exact .base (.ins h3 z.c z.ha z.hn z.ht z.hm)
    | _ => cases q'
def isiK (ok ans : TyT → Bool) : Option TyT → Po
  | some t => if ok t = true then .v (.bl (ans t)) else .no
  | none => .no
def isiD (ok ans : TyT → Bool) (ce : List Cell) (d : D) : Po := isiK ok ans (tyD ce d)
/-- isinstance(e, c), c one class -/
theorem d_isi {ok ans : TyT → Bool} {w : V} {u : Value} {cx : Expr} {t0 : Expr} (hk : ∀ t, ok t = true → PySem.W.kitOne X.K (valT cl t) u = some (ans t)) (ow : ∀ c, ok (.own c) = true → OwnTy X.K (cl c)) (hc : PE X cx (tC w)) (hw : ClsV w u)
    (ha : PEd X cl e W a f) (hst : ∀ t : TA, PA X [a, cx] t → PE X t0 (tCB (rIsi X.K) t)) (h1 : starEach [a, cx] X.env = (false, eval a X.env) :: starEach [cx] X.env := by rfl) (h2 : starEach [cx] X.env = (false, eval cx X.env) :: starEach [] X.env := by rfl) : PEd X cl e W t0 (dUn (isiD ok ans) f) :=
  pe_w (hst _ (pa_cons ha (pa_cons hc pa_nil h2) h1)) fun σ H Q ⟨F, ca, s, b, q⟩ => by
    refine use_rd b q fun v d s1 F1 H1 ca1 b1 i1 x1 p1 q1 => ?_
    unfold isiD at q1
    cases e1 : tyD s1.ce d with
    | none =>
      rw [e1] at q1
      exact False.elim q1
    | some t =>
      rw [e1] at q1
      have q2 : rdK X.K cl e W σ F1 ca1 Q (poK s1 (if ok t = true then .v (.bl (ans t)) else .no)) := q1
      by_cases hz : ok t = true
      · rw [if_pos hz] at q2
        exact ⟨v, w, valT cl t, u, ans t, rfl, hw, tyD_ok (fun c ec => ow c (ec ▸ hz)) b1 i1 e1, hk t hz, q2 _ F1 H1 ca1 b1 (Ex.refl _) (Pre.refl _) (.bl _)⟩
      · rw [if_neg hz] at q2
        exact False.elim q2
end
end Dv

set_option maxRecDepth 100000
set_option maxHeartbeats 4000000
/-! comprehensions over a name's list (a cell too), over unequal zips, with two clauses -/
namespace Dv
open PySem PySem.Spec PyProof.Rows L2

/-! ### over a name: its list must not change -/
noncomputable def sameC (j : Nat) (xs : List D) : S → Bool := fun s => @decide (cellL s.ce[j]? = some xs) (Classical.propDecidable _)
theorem sameC_of {j : Nat} {xs : List D} {s : S} : sameC j xs s = true ↔ cellL s.ce[j]? = some xs := by
  unfold sameC
  exact @decide_eq_true_iff _ (Classical.propDecidable _)
noncomputable def varK (t : DT) (vs : List Nat) (c : DB) (f : DE) (s : S) : D → R
  | .lst xs => compL gYes t vs c f xs [] s
  | .ro xs => compL gYes t vs c f xs [] s
  | .rf j => match cellL s.ce[j]? with
    | some xs => compL (sameC j xs) t vs c f xs [] s
    | none => .no
  | _ => .no
noncomputable def dCompV (i : Nat) (t : DT) (vs : List Nat) (c : DB) (f : DE) : DE := fun s => match s.sl[i]? with
  | some (some d) => varK t vs c f s d
  | _ => .no
section
variable {X : Cx} {cl : Cl} {e : Ent} {W : WX} {t : DT} {vs : List Nat} {c : DB} {f : DE} {g : TG}
theorem wk_cell {F : Hp} {ca : List Addr} {a : Addr} {j : Nat} {xs : List D} (hj : ca[j]? = some a) : WkG X cl (sameC j xs) (Itl X.K a) F ca xs := fun e F1 H ca1 σ s b x p hg => by
  obtain ⟨y, h1, h2⟩ := b.cel.at_ (p j a hj)
  have h3 := cellL_eq (sameC_of.mp hg)
  rw [h1] at h3
  cases h3
  obtain ⟨hF, us, hH, hi⟩ := h2
  have hq : SqL X.K H a us := SqL.of hH
  refine ⟨⟨us, hq, by rw [hi.length]; exact Nat.le_refl _⟩, fun i d hd => ?_⟩
  obtain ⟨v, hv, iv⟩ := hi.get hd
  refine ⟨⟨us, v, hq, hv⟩, fun w H' y => ?_⟩
  obtain ⟨rfl, y⟩ := y
  have e1 := y us hq
  rw [hv] at e1
  cases e1
  exact ⟨F1, Ex.refl _, fun _ _ _ n => n, Ex.refl _, b, iv⟩
theorem rd_compV {i : Nat} {σ : L2.St} {H : Hp} {Q : VK} (hg : TgC X cl g t vs) (h : rd X.K cl e W (dCompV i t vs c f) σ H Q) :
    tLc (iList X.K (tVar i)) g (fun σ H Q => ∃ e', rdB X.K cl e' W0 c σ H Q) (fun σ H Q => ∃ e', rd X.K cl e' W0 f σ H Q) vs σ H Q := by
  obtain ⟨F, ca, s, b, q⟩ := h
  unfold dCompV at q
  cases z : s.sl[i]? with
  | none =>
    rw [z] at q
    exact False.elim q
  | some o =>
    rw [z] at q
    cases o with
    | none => exact False.elim q
    | some d =>
      obtain ⟨v, h1, h2⟩ := b.slo i d z
      have q' : rdK X.K cl e W σ F ca Q (varK t vs c f s d) := q
      refine ⟨v, h1, ?_⟩
      cases h2 with
      | lst hl hi => exact ⟨_, rfl, ⟨_, SqL.of (b.fh _ _ hl)⟩, comp_core hg b (wk_list (SqL.of hl) hi) q'⟩
      | ro hl hi => exact ⟨_, rfl, ⟨_, ex_l b.fh hl⟩, comp_core hg b (wk_list hl hi) q'⟩
      | @rf a j hj =>
        have q2 : rdK X.K cl e W σ F ca Q (match cellL s.ce[j]? with
          | some xs => compL (sameC j xs) t vs c f xs [] s
          | none => .no) := q'
        cases e1 : cellL s.ce[j]? with
        | none =>
          rw [e1] at q2
          exact False.elim q2
        | some xs =>
          rw [e1] at q2
          obtain ⟨a', us, e2, hl, _⟩ := look_ok b (.rf hj) (xs := xs) e1
          cases e2
          exact ⟨_, rfl, ⟨_, hl⟩, comp_core hg b (wk_cell hj) q2⟩
      | _ => exact False.elim q'
theorem d_lcV {i : Nat} {elt tgx iter : Expr} {ifs : List Expr} {scope : Scope} {own : List (Str × Nat)} {pos : Pos} (hg : TgC X cl g t (own.map (·.2)))
    (hp : PE X (.ListComp elt [⟨tgx, iter, ifs, 0⟩] scope pos) (tLc (iList X.K (tVar i)) g (fun σ H Q => ∃ e', rdB X.K cl e' W0 c σ H Q) (fun σ H Q => ∃ e', rd X.K cl e' W0 f σ H Q) (own.map (·.2)))) :
    PEd X cl e W (.ListComp elt [⟨tgx, iter, ifs, 0⟩] scope pos) (dCompV i t (own.map (·.2)) c f) := pe_w hp fun _ _ _ q => rd_compV hg q

/-! ### zip of any two lists -/
theorem pairs_min : ∀ {xs ys : List D}, (pairs xs ys).length = min xs.length ys.length
  | [], _ => by simp [pairs]
  | _ :: _, [] => by simp [pairs]
  | a :: as, b :: bs => by
    show (pairs as bs).length + 1 = min (as.length + 1) (bs.length + 1)
    rw [pairs_min (xs := as) (ys := bs)]
    omega
theorem wk_zipU {F : Hp} {ca : List Addr} {a c : Addr} {va vb : List V} {as bs : List D} (la : SqL X.K F a va) (lb : SqL X.K F c vb) (ja : IsL X.K cl F ca va as) (jb : IsL X.K cl F ca vb bs) : WkD X cl (Itz X.K a c) F ca (pairs as bs) := fun e F1 H ca1 σ s b x p _ => by
  have h1 := ex_l (x.trans b.fh) la
  have h2 := ex_l (x.trans b.fh) lb
  refine ⟨⟨va, vb, h1, h2, by rw [pairs_min, ja.length, jb.length]; omega⟩, fun i d hd => ?_⟩
  obtain ⟨d1, d2, e1, e2, rfl⟩ := pairs_get hd
  obtain ⟨v1, hv1, i1⟩ := ja.get e1
  obtain ⟨v2, hv2, i2⟩ := jb.get e2
  refine ⟨⟨va, vb, v1, v2, h1, h2, hv1, hv2⟩, fun w H' y => ?_⟩
  obtain ⟨T, x0, y0, rfl, hT, rfl, y1, y2⟩ := y
  have z1 := y1 va h1
  have z2 := y2 vb h2
  rw [hv1] at z1
  rw [hv2] at z2
  cases z1
  cases z2
  exact wk_new b hT (i1.mono x p) (i2.mono x p)
def zipU : List D → Option (List D)
  | [a, b] => match frL a, frL b with
    | some xs, some ys => some (pairs xs ys)
    | _, _ => none
  | _ => none
theorem zipU_eq {ds xs : List D} (h : zipU ds = some xs) : ∃ a b as bs, ds = [a, b] ∧ frL a = some as ∧ frL b = some bs ∧ xs = pairs as bs := by
  unfold zipU at h
  split at h
  · split at h
    · cases h
      exact ⟨_, _, _, _, rfl, by assumption, by assumption, rfl⟩
    · cases h
  · cases h
theorem ic_zipU {ga : DA} : ItC X cl e W (iZip X.K (rdA X.K cl e W ga)) (iA zipU ga) := ⟨fun F H ca σ s Q k Z b q go => by
  refine use_iAR b q fun vs ds xs s1 F1 H1 ca1 b1 i1 hk q1 => ?_
  obtain ⟨da, db, as, bs, rfl, e1, e2, rfl⟩ := zipU_eq hk
  cases i1 with
  | cons ia it =>
    cases it with
    | cons ib it =>
      cases it
      obtain ⟨a, va, rfl, la, ja⟩ := frL_ok ia e1
      obtain ⟨c, vb, rfl, lb, jb⟩ := frL_ok ib e2
      exact ⟨a, c, va, vb, rfl, ex_l b1.fh la, ex_l b1.fh lb, go _ _ s1 F1 H1 ca1 b1 (wk_zipU la lb ja jb) q1⟩⟩
end

/-! ### two clauses -/
section
variable {K : PySem.W.Frag} {cl : Cl} {e : Ent} {F F' H H' : Hp} {ca ca' : List Addr} {σ σ' : L2.St} {s s' : S} {p : Addr} {o : HO}
/-- the same state, as if it were entered now -/
theorem B.self (b : B K cl e F H ca σ s) : B K cl ⟨F, H, ca⟩ F H ca σ ⟨s.sl, s.ce, s.ce.length⟩ :=
  ⟨b.fh, Ex.refl _, fun _ _ q _ => q, fun _ _ _ n => n, Pre.refl _, fun _ h => .inl h, b.cel, b.len, b.slo, fun _ o q => ⟨o, q⟩, b.cel.1⟩
/-- names wiped -/
theorem B.wiped (b : B K cl e F H ca σ s) (vs : List Nat) : B K cl e F H ca (wipe σ vs) ⟨wipeD s.sl vs, s.ce, s.n0⟩ :=
  b.less (by rw [wipeD_len, wipe_length]; exact b.len) fun i d q => by
    obtain ⟨h1, h2⟩ := wipeD_some q
    obtain ⟨v, h3, h4⟩ := b.slo i d h1
    exact ⟨v, wipe_keep h2 h3, h4⟩
/-- the same slots for another evaluation behind which the heap stands -/
theorem B.slots (b : B K cl e F H ca σ s) (b' : B K cl e F' H' ca' σ' s') (x : Ex F F') (p : Pre ca ca') : B K cl e F' H' ca' σ ⟨s.sl, s'.ce, s'.n0⟩ :=
  b'.less b.len fun i d q => by
    obtain ⟨v, h1, h2⟩ := b.slo i d q
    exact ⟨v, h1, h2.mono x p⟩
/-- a list that is nobody's yet grows -/
theorem B.acc (b : B K cl e F H ca σ s) (hF : F p = none) (hc : p ∉ ca) (h0 : e.H0 p = none) : B K cl e F (upd H p o) ca σ s where
  fh := fun a o h => by rw [upd_ne (ne_of_none h hF)]; exact b.fh a o h
  exF := b.exF
  keep := fun a o h n => by rw [upd_ne (ne_of_none h h0)]; exact b.keep a o h n
  free := b.free
  pre := b.pre
  newc := b.newc
  cel := ⟨b.cel.1, b.cel.2.1, fun j a y h1 h2 => (b.cel.2.2 j a y h1 h2).mono (Ex.refl _) id (upd_ne fun z => hc (z ▸ List.mem_of_getElem? h1)) (Pre.refl _)⟩
  len := b.len
  slo := b.slo
  hcl := fun a o h => by
    obtain ⟨o', z⟩ := b.hcl a o h
    exact ⟨o', by rw [upd_ne (ne_of_none h h0)]; exact z⟩
  n0 := b.n0
/-- the list so far: nobody's -/
def Acc (K : PySem.W.Frag) (cl : Cl) (e : Ent) (F H : Hp) (ca : List Addr) (p : Addr) (acc : List D) : Prop := ∃ va, H p = some (.lst va) ∧ IsL K cl F ca va acc ∧ F p = none ∧ p ∉ ca ∧ e.H0 p = none
/-- .. behind a block -/
theorem Acc.block {acc : List D} (h : Acc K cl e F H ca p acc) (c : B K cl ⟨F, H, ca⟩ F' H' ca' σ' s') : Acc K cl e F' H' ca' p acc := by
  obtain ⟨va, h1, h2, h3, h4, h5⟩ := h
  refine ⟨va, c.keep p _ h1 h4, h2.mono c.exF c.pre, c.free p _ h1 h3, fun hm => ?_, h5⟩
  rcases c.newc p hm with z | z
  · exact h4 z
  · rw [show (Ent.H0 ⟨F, H, ca⟩) p = H p from rfl, h1] at z
    cases z
end
def okI : RI → (List D → S → R) → R
  | .ok xs s, k => k xs s
  | _, _ => .no
def innL (t1 : DT) (vs1 : List Nat) (c1 : DB) (f : DE) (k : List D → S → R) : List D → List D → S → R
  | [], acc, s => k acc s
  | y :: ys, acc, s => tgR (fun s1 => okB (c1 s1) fun b s2 => if b = true then okR (f s2) (fun x s3 => if acc.length < 100000 then innL t1 vs1 c1 f k ys (acc ++ [x]) (outS s s3) else .no) else innL t1 vs1 c1 f k ys acc (outS s s2)) (t1 y (inS vs1 s))
def compL2 (t : DT) (vs : List Nat) (c : DB) (it1 : DI) (t1 : DT) (vs1 : List Nat) (c1 : DB) (f : DE) : List D → List D → S → R
  | [], acc, s => .nl acc s
  | d :: ds, acc, s => tgR (fun s1 => okB (c s1) fun b s2 => if b = true then okI (it1 s2) (fun ys s3 => innL t1 vs1 c1 f (fun acc' s4 => compL2 t vs c it1 t1 vs1 c1 f ds acc' (outS s s4)) ys acc s3) else compL2 t vs c it1 t1 vs1 c1 f ds acc (outS s s2)) (t d (inS vs s))
def dComp2 (it : DI) (t : DT) (vs : List Nat) (c : DB) (it1 : DI) (t1 : DT) (vs1 : List Nat) (c1 : DB) (f : DE) : DE := fun s => bindIR (it s) fun xs s1 => compL2 t vs c it1 t1 vs1 c1 f xs [] s1
section
variable {X : Cx} {cl : Cl} {e : Ent} {W : WX} {t t1 : DT} {vs vs1 : List Nat} {c c1 : DB} {f : DE} {g g1 : TG} {it1 : DI} {wi1 : Ent → TI}
theorem wipe_out {vs : List Nat} {σ σ' : L2.St} (hl : σ'.length = (wipe σ vs).length) (h : ∀ i, i ∉ vs → σ'[i]? = (wipe σ vs)[i]?) : wipe σ' vs = wipe σ vs := by
  refine wipe_ext (by rw [hl, wipe_length]) fun j hj => ?_
  rw [h j hj]
  have gen : ∀ (ρ : L2.St) (ws : List Nat), j ∉ ws → (wipe ρ ws)[j]? = ρ[j]? := by
    intro ρ ws
    induction ws with
    | nil => intro _; rfl
    | cons w ws ih =>
      intro hn
      unfold wipe
      rw [List.getElem?_set_ne (fun z => hn (by rw [z]; exact List.mem_cons_self))]
      exact ih fun z => hn (List.mem_cons_of_mem _ z)
  exact gen σ vs hj
/-- what is walked, asked for its items alone -/
theorem it_use {wi : TI} {it : DI} {F H : Hp} {ca : List Addr} {σ : L2.St} {s s1 : S} {ys : List D} {Z : It → Hp → Prop} (hi : ItC X cl e W0 wi it) (b : Bx X cl e F H ca σ s) (q : it s = .ok ys s1)
    (go : ∀ J F1 H1 ca1, Bx X cl e F1 H1 ca1 σ s1 → WkD X cl J F1 ca1 ys → Z J H1) : wi σ H Z := by
  refine hi.run F H ca σ s (fun _ _ => True) (fun xs s2 => @ite _ (xs = ys ∧ s2 = s1) (Classical.propDecidable _) (.ok .non s2) .no) Z b ?_ fun J xs s2 F1 H1 ca1 b1 wk q1 => ?_
  · rw [q]
    show rdK X.K cl e W0 σ F ca (fun _ _ => True) (@ite _ (ys = ys ∧ s1 = s1) (Classical.propDecidable _) (R.ok .non s1) .no)
    rw [if_pos ⟨rfl, rfl⟩]
    exact fun _ _ _ _ _ _ _ _ => trivial
  · by_cases hz : xs = ys ∧ s2 = s1
    · obtain ⟨rfl, rfl⟩ := hz
      exact go J F1 H1 ca1 b1 wk
    · have q2 : rdK X.K cl e W0 σ F1 ca1 (fun _ _ => True) (@ite _ (xs = ys ∧ s2 = s1) (Classical.propDecidable _) (R.ok .non s2) .no) := q1
      rw [if_neg hz] at q2
      exact False.elim q2
/-- between two turns of the inner walk -/
def Inn (X : Cx) (cl : Cl) (e : Ent) (W : WX) (t1 : DT) (vs1 : List Nat) (c1 : DB) (f : DE) (k : List D → S → R) (σ σ2 : L2.St) (sl : List (Option D)) (n0 : Nat) (s3 : S) (Dl : Addr) (F0 : Hp) (ca0 : List Addr) (Q : VK) (ys : List D) (H : Hp) : Prop :=
  ∃ F ca ce acc, Bx X cl e F H ca σ ⟨sl, ce, n0⟩ ∧ Bx X cl e F H ca σ2 ⟨s3.sl, ce, n0⟩ ∧ Ex F0 F ∧ Pre ca0 ca ∧ Acc X.K cl e F H ca Dl acc ∧ rdK X.K cl e W σ F ca Q (innL t1 vs1 c1 f k ys acc ⟨s3.sl, ce, s3.n0⟩)
theorem inn_turn {k : List D → S → R} {σ σ2 : L2.St} {sl : List (Option D)} {n0 : Nat} {s3 : S} {Dl : Addr} {F0 : Hp} {ca0 : List Addr} {Q : VK} {J : It} {F1 H : Hp} {ca1 : List Addr} {all ys : List D} {y : D} {i : Nat}
    (hg1 : TgC X cl g1 t1 vs1) (wk : WkD X cl J F1 ca1 all) (hy : all[i]? = some y) (hF1 : Ex F1 F0) (hc1 : Pre ca1 ca0)
    (h : Inn X cl e W t1 vs1 c1 f k σ σ2 sl n0 s3 Dl F0 ca0 Q (y :: ys) H) :
    J.go i H ∧ ∀ x H', J.yld i H x H' → g1 x (wipe σ2 vs1) H' fun σ3 H5 => wipe σ3 vs1 = wipe σ2 vs1 ∧ (∃ e', rdB X.K cl e' W0 c1 σ3 H5 fun b H6 =>
      if b = true then (∃ e', rd X.K cl e' W0 f σ3 H6 fun z H7 => ∃ acc, H7 Dl = some (.lst acc) ∧ acc.length < sizeLine ∧ Inn X cl e W t1 vs1 c1 f k σ σ2 sl n0 s3 Dl F0 ca0 Q ys (upd H7 Dl (.lst (acc ++ [z])))) else Inn X cl e W t1 vs1 c1 f k σ σ2 sl n0 s3 Dl F0 ca0 Q ys H6) := by
  obtain ⟨F, ca, ce, acc, bo, bi, x0, p0, ac, q⟩ := h
  obtain ⟨_, wgo⟩ := wk e F H ca σ2 _ bi (hF1.trans x0) (hc1.trans p0) rfl
  obtain ⟨go1, go2⟩ := wgo i y hy
  refine ⟨go1, fun x H3 yl => ?_⟩
  obtain ⟨F3, x3, fr3, xh3, b3, i3⟩ := go2 x H3 yl
  have bo3 := bo.slots b3 x3 (Pre.refl ca)
  obtain ⟨va, hDl, iacc, hFD, hcD, h0D⟩ := ac
  have ac3 : Acc X.K cl e F3 H3 ca Dl acc := ⟨va, xh3 Dl _ hDl, iacc.mono x3 (Pre.refl ca), fr3 Dl _ hDl hFD, hcD, h0D⟩
  have q3 : rdK X.K cl e W σ F ca Q (tgR (fun s1 => okB (c1 s1) fun b s2 => if b = true then okR (f s2) (fun x s4 => if acc.length < 100000 then innL t1 vs1 c1 f k ys (acc ++ [x]) (outS ⟨s3.sl, ce, s3.n0⟩ s4) else .no) else innL t1 vs1 c1 f k ys acc (outS ⟨s3.sl, ce, s3.n0⟩ s2)) (t1 y (inS vs1 ⟨s3.sl, ce, s3.n0⟩))) := q
  have bw : Bx X cl ⟨F3, H3, ca⟩ F3 H3 ca (wipe σ2 vs1) (inS vs1 ⟨s3.sl, ce, s3.n0⟩) := (b3.wiped vs1).self
  cases e1 : t1 y (inS vs1 ⟨s3.sl, ce, s3.n0⟩) with
  | none =>
    rw [e1] at q3
    exact False.elim q3
  | some s4 =>
    rw [e1] at q3
    have q4 : rdK X.K cl e W σ F ca Q (okB (c1 s4) fun b s2 => if b = true then okR (f s2) (fun x s4 => if acc.length < 100000 then innL t1 vs1 c1 f k ys (acc ++ [x]) (outS ⟨s3.sl, ce, s3.n0⟩ s4) else .no) else innL t1 vs1 c1 f k ys acc (outS ⟨s3.sl, ce, s3.n0⟩ s2)) := q3
    refine hg1 ⟨F3, H3, ca⟩ F3 H3 ca (wipe σ2 vs1) _ s4 x y bw i3 e1 _ fun σ' b4 l4 w4 => ⟨wipe_out l4 w4, ⟨F3, H3, ca⟩, F3, ca, s4, b4, ?_⟩
    cases e2 : c1 s4 with
    | ok bb s5 =>
      rw [e2] at q4
      intro F5 H5 ca5 b5 x5 p5
      cases bb with
      | false =>
        rw [if_neg (by decide)]
        have q5 : rdK X.K cl e W σ F ca Q (innL t1 vs1 c1 f k ys acc (outS ⟨s3.sl, ce, s3.n0⟩ s5)) := q4
        have xa := x3.trans x5
        exact ⟨F5, ca5, s5.ce, acc, bo3.block b5, b3.block b5, x0.trans xa, p0.trans p5, ac3.block b5, rdK.back xa p5 q5⟩
      | true =>
        rw [if_pos rfl]
        have q5 : rdK X.K cl e W σ F ca Q (okR (f s5) (fun x s4 => if acc.length < 100000 then innL t1 vs1 c1 f k ys (acc ++ [x]) (outS ⟨s3.sl, ce, s3.n0⟩ s4) else .no)) := q4
        refine ⟨⟨F3, H3, ca⟩, F5, ca5, s5, b5, ?_⟩
        cases e3 : f s5 with
        | ok d6 s6 =>
          rw [e3] at q5
          intro v6 F6 H6 ca6 b6 x6 p6 i6
          have q6 : rdK X.K cl e W σ F ca Q (if acc.length < 100000 then innL t1 vs1 c1 f k ys (acc ++ [d6]) (outS ⟨s3.sl, ce, s3.n0⟩ s6) else .no) := q5
          by_cases hz : acc.length < 100000
          · rw [if_pos hz] at q6
            have xa := (x3.trans x5).trans x6
            have pa := p5.trans p6
            obtain ⟨va6, g1, g2, g3, g4, g5⟩ := ac3.block b6
            refine ⟨va6, g1, ?_, F6, ca6, s6.ce, acc ++ [d6], (bo3.block b6).acc g3 g4 g5, (b3.block b6).acc g3 g4 g5, x0.trans xa, p0.trans pa, ⟨_, upd_same, g2.app (.one i6), g3, g4, g5⟩, rdK.back xa pa q6⟩
            rw [g2.length]
            exact Nat.lt_of_lt_of_le hz (by decide)
          · rw [if_neg hz] at q6
            exact False.elim q6
        | _ =>
          rw [e3] at q5
          exact False.elim q5
    | _ =>
      rw [e2] at q4
      exact False.elim q4
theorem comp2_core {σ : L2.St} {Q : VK} {J : It} {xs : List D} {s1 : S} {F1 H1 : Hp} {ca1 : List Addr} (hg : TgC X cl g t vs) (hi1 : ∀ e', ItC X cl e' W0 (wi1 e') it1) (hg1 : TgC X cl g1 t1 vs1) (b1 : Bx X cl e F1 H1 ca1 σ s1) (wk : WkD X cl J F1 ca1 xs)
    (q1 : rdK X.K cl e W σ F1 ca1 Q (compL2 t vs c it1 t1 vs1 c1 f xs [] s1)) :
    tLc2 (fun _ H Z => Z J H) g (fun σ H Q => ∃ e', rdB X.K cl e' W0 c σ H Q) (fun σ H R => ∃ e', wi1 e' σ H R) g1 (fun σ H Q => ∃ e', rdB X.K cl e' W0 c1 σ H Q) (fun σ H Q => ∃ e', rd X.K cl e' W0 f σ H Q) vs vs1 σ H1 Q := by
  intro Dl hD
  refine ⟨fun i m H => m = xs.length - i ∧ i ≤ xs.length ∧ ∃ F ca s acc, Bx X cl e F H ca σ s ∧ Ex F1 F ∧ Pre ca1 ca ∧ Acc X.K cl e F H ca Dl acc ∧ rdK X.K cl e W σ F ca Q (compL2 t vs c it1 t1 vs1 c1 f (xs.drop i) acc s),
    ⟨xs.length, rfl, Nat.zero_le _, F1, ca1, s1, [], b1.laid hD, Ex.refl _, Pre.refl _, ⟨[], upd_same, .nil, b1.notF hD, b1.notca hD, b1.notH0 hD⟩, q1⟩, ?_⟩
  rintro i m H2 ⟨rfl, hle, F2, ca2, s2, acc, b2, x2, p2, ac2, q2⟩
  obtain ⟨wstop, wgo⟩ := wk e F2 H2 ca2 σ s2 b2 x2 p2 rfl
  by_cases hlt : i < xs.length
  · have hd : xs[i]? = some xs[i] := List.getElem?_eq_getElem hlt
    obtain ⟨go1, go2⟩ := wgo i _ hd
    refine .inr ⟨go1, fun H' => ∃ F ca s acc, Bx X cl e F H' ca σ s ∧ Ex F1 F ∧ Pre ca1 ca ∧ Acc X.K cl e F H' ca Dl acc ∧ rdK X.K cl e W σ F ca Q (compL2 t vs c it1 t1 vs1 c1 f (xs.drop (i + 1)) acc s),
      fun H' r => ⟨xs.length - (i + 1), by omega, rfl, hlt, r⟩, fun x H3 y => ?_⟩
    obtain ⟨F3, x3, fr3, xh3, b3, i3⟩ := go2 x H3 y
    obtain ⟨va, hDl, iacc, hFD, hcD, h0D⟩ := ac2
    have ac3 : Acc X.K cl e F3 H3 ca2 Dl acc := ⟨va, xh3 Dl _ hDl, iacc.mono x3 (Pre.refl _), fr3 Dl _ hDl hFD, hcD, h0D⟩
    rw [List.drop_eq_getElem_cons hlt] at q2
    have q3 : rdK X.K cl e W σ F2 ca2 Q (tgR (fun s1 => okB (c s1) fun b s3 => if b = true then okI (it1 s3) (fun ys s5 => innL t1 vs1 c1 f (fun acc' s4 => compL2 t vs c it1 t1 vs1 c1 f (xs.drop (i + 1)) acc' (outS s2 s4)) ys acc s5) else compL2 t vs c it1 t1 vs1 c1 f (xs.drop (i + 1)) acc (outS s2 s3)) (t xs[i] (inS vs s2))) := q2
    have bw : Bx X cl ⟨F3, H3, ca2⟩ F3 H3 ca2 (wipe σ vs) (inS vs s2) := (b3.wiped vs).self
    cases e1 : t xs[i] (inS vs s2) with
    | none =>
      rw [e1] at q3
      exact False.elim q3
    | some s3 =>
      rw [e1] at q3
      have q4 : rdK X.K cl e W σ F2 ca2 Q (okB (c s3) fun b s3 => if b = true then okI (it1 s3) (fun ys s5 => innL t1 vs1 c1 f (fun acc' s4 => compL2 t vs c it1 t1 vs1 c1 f (xs.drop (i + 1)) acc' (outS s2 s4)) ys acc s5) else compL2 t vs c it1 t1 vs1 c1 f (xs.drop (i + 1)) acc (outS s2 s3)) := q3
      refine hg ⟨F3, H3, ca2⟩ F3 H3 ca2 (wipe σ vs) (inS vs s2) s3 x _ bw i3 e1 _ fun σ' b4 l4 w4 => ⟨wipe_out l4 w4, ⟨F3, H3, ca2⟩, F3, ca2, s3, b4, ?_⟩
      cases e2 : c s3 with
      | ok bb s4 =>
        rw [e2] at q4
        intro F5 H5 ca5 b5 x5 p5
        cases bb with
        | false =>
          rw [if_neg (by decide)]
          have q5 : rdK X.K cl e W σ F2 ca2 Q (compL2 t vs c it1 t1 vs1 c1 f (xs.drop (i + 1)) acc (outS s2 s4)) := q4
          have xa := x3.trans x5
          exact ⟨F5, ca5, outS s2 s4, acc, b3.block b5, x2.trans xa, p2.trans p5, ac3.block b5, rdK.back xa p5 q5⟩
        | true =>
          rw [if_pos rfl]
          have q5 : rdK X.K cl e W σ F2 ca2 Q (okI (it1 s4) (fun ys s5 => innL t1 vs1 c1 f (fun acc' s4 => compL2 t vs c it1 t1 vs1 c1 f (xs.drop (i + 1)) acc' (outS s2 s4)) ys acc s5)) := q4
          cases e3 : it1 s4 with
          | ok ys s5 =>
            rw [e3] at q5
            have q6 : rdK X.K cl e W σ F2 ca2 Q (innL t1 vs1 c1 f (fun acc' s4 => compL2 t vs c it1 t1 vs1 c1 f (xs.drop (i + 1)) acc' (outS s2 s4)) ys acc s5) := q5
            refine ⟨⟨F3, H3, ca2⟩, it_use (hi1 _) b5 e3 fun J1 F6 H6 ca6 b6 wk1 => ?_⟩
            have xa := x3.trans b6.exF
            have pa := b6.pre
            have bo6 := b3.block b6
            have bi6 := bo6.less (σ' := σ') (sl' := s5.sl) b6.len b6.slo
            refine ⟨fun j m H => m = ys.length - j ∧ j ≤ ys.length ∧ Inn X cl e W t1 vs1 c1 f (fun acc' s4 => compL2 t vs c it1 t1 vs1 c1 f (xs.drop (i + 1)) acc' (outS s2 s4)) σ σ' s2.sl s2.n0 s5 Dl F6 ca6 Q (ys.drop j) H,
              ⟨ys.length, rfl, Nat.zero_le _, F6, ca6, s5.ce, acc, bo6, bi6, Ex.refl _, Pre.refl _, ac3.block b6, rdK.back xa pa q6⟩, ?_⟩
            rintro j m H7 ⟨rfl, hje, inn⟩
            by_cases hjl : j < ys.length
            · rw [List.drop_eq_getElem_cons hjl] at inn
              obtain ⟨g1', tn⟩ := inn_turn hg1 wk1 (List.getElem?_eq_getElem hjl) (Ex.refl _) (Pre.refl _) inn
              exact .inr ⟨g1', fun H' => Inn X cl e W t1 vs1 c1 f (fun acc' s4 => compL2 t vs c it1 t1 vs1 c1 f (xs.drop (i + 1)) acc' (outS s2 s4)) σ σ' s2.sl s2.n0 s5 Dl F6 ca6 Q (ys.drop (j + 1)) H', fun H' r => ⟨ys.length - (j + 1), by omega, rfl, hjl, r⟩, tn⟩
            · have ej : j = ys.length := by omega
              subst ej
              obtain ⟨F7, ca7, ce7, acc7, bo7, bi7, x7, p7, ac7, q7⟩ := inn
              obtain ⟨wst, _⟩ := wk1 e F7 H7 ca7 σ' _ bi7 x7 p7 rfl
              refine .inl ⟨wst, F7, ca7, outS s2 ⟨s5.sl, ce7, s5.n0⟩, acc7, bo7, x2.trans (xa.trans x7), p2.trans (pa.trans p7), ac7, ?_⟩
              rw [List.drop_length] at q7
              exact q7
          | _ =>
            rw [e3] at q5
            exact False.elim q5
      | _ =>
        rw [e2] at q4
        exact False.elim q4
  · have e1 : i = xs.length := by omega
    subst e1
    refine .inl ⟨wstop, ?_⟩
    rw [List.drop_length] at q2
    obtain ⟨va, hDl, iacc, hFD, hcD, h0D⟩ := ac2
    have q3 : rdK X.K cl e W σ F2 ca2 Q (.nl acc s2) := q2
    exact q3 (.ref Dl) F2 H2 ca2 b2 (Ex.refl _) (Pre.refl _) ⟨Dl, va, rfl, hDl, iacc, hFD, hcD, h0D⟩
theorem rd_comp2 {wi : TI} {it : DI} {σ : L2.St} {H : Hp} {Q : VK} (hi : ItC X cl e W wi it) (hg : TgC X cl g t vs) (hi1 : ∀ e', ItC X cl e' W0 (wi1 e') it1) (hg1 : TgC X cl g1 t1 vs1) (h : rd X.K cl e W (dComp2 it t vs c it1 t1 vs1 c1 f) σ H Q) :
    tLc2 wi g (fun σ H Q => ∃ e', rdB X.K cl e' W0 c σ H Q) (fun σ H R => ∃ e', wi1 e' σ H R) g1 (fun σ H Q => ∃ e', rdB X.K cl e' W0 c1 σ H Q) (fun σ H Q => ∃ e', rd X.K cl e' W0 f σ H Q) vs vs1 σ H Q := by
  obtain ⟨F, ca, s, b, q⟩ := h
  exact hi.run F H ca σ s Q _ _ b q fun J xs s1 F1 H1 ca1 b1 wk q1 => comp2_core hg hi1 hg1 b1 wk q1
theorem pi_ex {tgx iter : Expr} {wi : Ent → TI} (h : ∀ e', PI X tgx iter (wi e')) : PI X tgx iter (fun σ H R => ∃ e', wi e' σ H R) := ⟨fun pins s σ H R I ⟨e', q⟩ => (h e').run pins s σ H R I q⟩
theorem d_lc2 {elt tgx iter tgx1 iter1 : Expr} {ifs ifs1 : List Expr} {scope : Scope} {own : List (Str × Nat)} {pos : Pos} {wi : TI} {it : DI} (hi : ItC X cl e W wi it) (hg : TgC X cl g t (own.map (·.2))) (hi1 : ∀ e', ItC X cl e' W0 (wi1 e') it1) (hg1 : TgC X cl g1 t1 vs1)
    (hp : PE X (.ListComp elt [⟨tgx, iter, ifs, 0⟩, ⟨tgx1, iter1, ifs1, 0⟩] scope pos) (tLc2 wi g (fun σ H Q => ∃ e', rdB X.K cl e' W0 c σ H Q) (fun σ H R => ∃ e', wi1 e' σ H R) g1 (fun σ H Q => ∃ e', rdB X.K cl e' W0 c1 σ H Q) (fun σ H Q => ∃ e', rd X.K cl e' W0 f σ H Q) (own.map (·.2)) vs1)) :
    PEd X cl e W (.ListComp elt [⟨tgx, iter, ifs, 0⟩, ⟨tgx1, iter1, ifs1, 0⟩] scope pos) (dComp2 it t (own.map (·.2)) c it1 t1 vs1 c1 f) := pe_w hp fun _ _ _ q => rd_comp2 hi hg hi1 hg1 q
end
end Dv

set_option maxRecDepth 100000
set_option maxHeartbeats 4000000
/-! raise; slices; math.lcm; loops over a cell; list(range(..)) -/
namespace Dv
open PySem PySem.Spec PyProof.Rows L2

/-! ### raise C('m') -/
def sRaise (c : Nat) : DS := fun s => .er ⟨c, []⟩ s
/-- a branch that isn't taken -/
def sNever : DS := fun _ => .no
section
variable {X : Cx} {cl : Cl} {e : Ent} {W : WX}
theorem s_raise {x : Expr} {c : Nat} {pos : Pos} (hc : X.calm = true) (tk : Takes X W) (he : PMk X x (fun _ H Q => Q (.ref (cl c)) none H)) : PSd X cl e W (.Raise (some x) none pos) (sRaise c) :=
  ps_w (ps_raise hc tk he) fun Dn σ H ⟨F, ca, s, b, q⟩ => q (.ref (cl c)) none σ F H ca b (Ex.refl F) (Pre.refl ca) ⟨rfl, rfl⟩
theorem s_never {st : Stmt} : PSd X cl e W st sNever := ⟨fun _ _ _ _ _ _ h => by
  obtain ⟨F, ca, s, b, q⟩ := h
  exact False.elim q⟩
theorem ss_never {st : List Stmt} : PSsd X cl e W st sNever := ⟨fun _ _ _ _ _ _ h => by
  obtain ⟨F, ca, s, b, q⟩ := h
  exact False.elim q⟩
theorem e_never {x : Expr} : PEd X cl e W x (fun _ => .no) := ⟨fun _ _ _ _ _ _ h => by
  obtain ⟨F, ca, s, b, q⟩ := h
  exact False.elim q⟩
end

/-! ### xs[lo:hi] -/
abbrev DPt := S → RI
/-- a part of a slice: none, or an int -/
inductive RP where
  | ok (i : Option Int) (s : S)
  | er (x : Xc) (s : S)
  | no
abbrev DP := S → RP
def bindPR : RP → (Option Int → S → R) → R
  | .ok d s, k => k d s
  | .er x s, _ => .er x s
  | .no, _ => .no
def ptNone : DP := fun s => .ok none s
def ptK (s : S) : D → RP
  | .int i => .ok (some i) s
  | _ => .no
def bindRP : R → (D → S → RP) → RP
  | .ok d s, k => k d s
  | .er x s, _ => .er x s
  | _, _ => .no
def ptSome (f : DE) : DP := fun s => bindRP (f s) fun d s1 => ptK s1 d
def cutD (xs : List D) (lo hi : Option Int) : List D := (xs.drop (HT.sIx xs.length 0 lo)).take (HT.sIx xs.length xs.length hi - HT.sIx xs.length 0 lo)
def cutK (s : S) (lo hi : Option Int) : Option (List D) → R
  | some xs => .nl (cutD xs lo hi) s
  | none => .no
def dSlice (f : DE) (l h : DP) : DE := fun s => bindR (f s) fun d s1 => bindPR (l s1) fun lo s2 => bindPR (h s2) fun hi s3 => cutK s3 lo hi (look s3.ce d)
section
variable {X : Cx} {cl : Cl} {e : Ent} {W : WX}
structure POd (X : Cx) (cl : Cl) (e : Ent) (W : WX) (x : Option Expr) (f : DP) : Prop where
  ex : ∃ t : TO, PO X x t ∧ ∀ (F H : Hp) (ca : List Addr) (σ : L2.St) (s : S) (Q : VK) (k : Option Int → S → R) (Z : Option Int → Hp → Prop), Bx X cl e F H ca σ s → rdK X.K cl e W σ F ca Q (bindPR (f s) k) →
    (∀ o s1 F1 H1 ca1, Bx X cl e F1 H1 ca1 σ s1 → Ex F F1 → Pre ca ca1 → rdK X.K cl e W σ F1 ca1 Q (k o s1) → Z o H1) → t σ H Z
theorem p_none : POd X cl e W none ptNone := ⟨_, po_none, fun F H ca σ s Q k Z b q go => go none s F H ca b (Ex.refl F) (Pre.refl ca) q⟩
theorem p_some {x : Expr} {f : DE} (h : PEd X cl e W x f) : POd X cl e W (some x) (ptSome f) := ⟨_, po_some h, fun F H ca σ s Q k Z b q go => by
  refine ⟨F, ca, s, b, ?_⟩
  unfold ptSome at q
  cases e1 : f s with
  | ok d s1 =>
    rw [e1] at q
    intro v F1 H1 ca1 b1 x1 p1 i1
    cases i1 with
    | int i => exact ⟨i, rfl, go (some i) s1 F1 H1 ca1 b1 x1 p1 (rdK.back x1 p1 q)⟩
    | _ => exact False.elim q
  | er xc s1 =>
    rw [e1] at q
    exact q
  | _ =>
    rw [e1] at q
    exact False.elim q⟩
theorem d_slice {a : Expr} {lo hi : Option Expr} {f : DE} {l h : DP} {p2 pos : Pos} (ha : PEd X cl e W a f) (hl : POd X cl e W lo l) (hh : POd X cl e W hi h) : PEd X cl e W (.Subscript a (.Slice lo hi none p2) pos) (dSlice f l h) := by
  obtain ⟨tl, pl, gl⟩ := hl.ex
  obtain ⟨th, ph, gh⟩ := hh.ex
  refine pe_w (pe_slice (sl_list (X := X)) ha pl ph) fun σ H Q ⟨F, ca, s, b, q⟩ => ?_
  refine use_rd b q fun v d s1 F1 H1 ca1 b1 i1 x1 p1 q1 => ?_
  refine gl F1 H1 ca1 σ s1 Q _ _ b1 q1 fun o s2 F2 H2 ca2 b2 x2 p2 q2 => ?_
  refine gh F2 H2 ca2 σ s2 Q _ _ b2 q2 fun u s3 F3 H3 ca3 b3 x3 p3 q3 => ?_
  cases e1 : look s3.ce d with
  | none =>
    rw [e1] at q3
    exact False.elim q3
  | some xs =>
    rw [e1] at q3
    obtain ⟨p, vs, rfl, hq, hi⟩ := look_ok b3 (i1.mono (x2.trans x3) (p2.trans p3)) e1
    refine ⟨p, vs, rfl, hq, fun r hr => ?_⟩
    have ec : IsL X.K cl F3 ca3 (cutV vs o u) (cutD xs o u) := by
      unfold cutV cutD
      rw [hi.length]
      exact (hi.drop _).take _
    exact q3 (.ref r) F3 _ ca3 (b3.laid hr) (Ex.refl F3) (Pre.refl ca3) ⟨r, _, rfl, upd_same, ec, b3.notF hr, b3.notca hr, b3.notH0 hr⟩
end

/-! ### math.lcm -/
def lcmD (_ : List Cell) : D → D → Po
  | .int i, .int j => if bits i < 6000 ∧ bits j < 6000 then .v (.int ((Nat.lcm i.natAbs j.natAbs : Nat) : Int)) else .no
  | _, _ => .no
def rLcm : List V → Hp → VK → Prop := fun vs H Q => ∃ a b : Int, vs = [.int a, .int b] ∧ bits a < 6000 ∧ bits b < 6000 ∧ Q (.int ((Nat.lcm a.natAbs b.natAbs : Nat) : Int)) H
theorem log2_max (m n k : Nat) (h1 : m.log2 < k) (h2 : n.log2 < k) : (max m n).log2 < k := by
  by_cases h : m ≤ n
  · rw [Nat.max_eq_right h]
    exact h2
  · rw [Nat.max_eq_left (by omega)]
    exact h1
theorem lcm_bits {a b : Nat} (h1 : a.log2 < 6000) (h2 : b.log2 < 6000) : (Nat.lcm a b).log2 < 12001 := by
  by_cases h0 : Nat.lcm a b = 0
  · rw [h0]
    decide
  · refine (Nat.log2_lt h0).mpr ?_
    have ha : a < 2 ^ 6000 := Nat.lt_of_lt_of_le Nat.lt_log2_self (Nat.pow_le_pow_right (by decide) h1)
    have hb : b < 2 ^ 6000 := Nat.lt_of_lt_of_le Nat.lt_log2_self (Nat.pow_le_pow_right (by decide) h2)
    have hp : 0 < a ∧ 0 < b := by
      constructor
      · refine Nat.pos_of_ne_zero fun z => h0 ?_
        rw [z, Nat.lcm_zero_left]
      · refine Nat.pos_of_ne_zero fun z => h0 ?_
        rw [z, Nat.lcm_zero_right]
    have hle : Nat.lcm a b ≤ a * b := Nat.le_of_dvd (Nat.mul_pos hp.1 hp.2) (Nat.lcm_dvd_mul a b)
    have hm : a * b < 2 ^ 6000 * 2 ^ 6000 := Nat.mul_lt_mul_of_lt_of_lt ha hb
    rw [← Nat.pow_add] at hm
    exact Nat.lt_trans (Nat.lt_of_le_of_lt hle hm) (Nat.pow_lt_pow_right (by decide) (by decide))
section
variable {X : Cx} {cl : Cl} {e : Ent} {W : WX}
theorem cr_lcm : CallR X (.builtin "math.lcm") rLcm := by
  intro pins s σ H vs us Q I r h
  obtain ⟨a, b, rfl, h1, h2, q⟩ := h
  obtain ⟨t, u, rfl⟩ := Vals.int2 r
  unfold bits at h1 h2
  have m1 : (max 1 a.natAbs).log2 < 6000 := log2_max _ _ _ (by decide) h1
  have m2 : (max a.natAbs b.natAbs).log2 < 6000 := log2_max _ _ _ h1 h2
  have e1 : Nat.lcm 1 a.natAbs = a.natAbs := Nat.lcm_one_left _
  refine call_function_meets PySem.W.MGF.kind_lcm PySem.W.MGF.plain_lcm PySem.W.MGF.entry_lcm (PySem.W.MGF.args_lcm _ _) (PySem.W.mg_run_lcm a t b u (by omega) (by omega) ?_).meets ?_
  · rw [e1, Int.natAbs_natCast]
    exact Nat.lt_trans (lcm_bits h1 h2) (by decide)
  · rw [e1]
    exact ⟨.int _, H, I.tok _, ⟨_, rfl⟩, q⟩
theorem bd_lcm : BiD X cl e rLcm (b2 lcmD) := bd2 fun F H ca σ s v w d f b i j => by
  cases i with
  | int i =>
    cases j with
    | int j =>
      show PoK X cl e F H ca σ s _ (if bits i < 6000 ∧ bits j < 6000 then .v (.int ((Nat.lcm i.natAbs j.natAbs : Nat) : Int)) else .no)
      by_cases hz : bits i < 6000 ∧ bits j < 6000
      · rw [if_pos hz]
        exact .val b (.int _) fun Q q => ⟨i, j, rfl, hz.1, hz.2, q⟩
      · rw [if_neg hz]
        trivial
    | _ => trivial
  | _ => cases j <;> trivial
end
end Dv

set_option maxRecDepth 100000
set_option maxHeartbeats 4000000
/-! dicts in cells -/
namespace Dv
open PySem PySem.Spec PyProof.Rows L2

def keyD : D → Option Key
  | .int i => some (.inl i)
  | .str s => some (.inr s)
  | _ => none
def valKD : List (Key × D) → Key → Option D
  | [], _ => none
  | p :: r, k => if p.1 = k then some p.2 else valKD r k
def putKD (kvs : List (Key × D)) (k : Key) (d : D) : List (Key × D) := match valKD kvs k with
  | some _ => kvs.map fun p => (p.1, if p.1 = k then d else p.2)
  | none => kvs ++ [(k, d)]
def cellD : Option Cell → Option (List (Key × D))
  | some (.dic kvs) => some kvs
  | _ => none
section
variable {K : PySem.W.Frag} {cl : Cl} {F : Hp} {ca : List Addr}
theorem keyD_ok {v : V} {d : D} {k : Key} (h : Is K cl F ca v d) (q : keyD d = some k) : v = kV k := by
  cases h with
  | int i =>
    cases q
    rfl
  | str s =>
    cases q
    rfl
  | _ => cases q
theorem isK_val {k : Key} : ∀ {vs : List (Key × V)} {kvs : List (Key × D)}, IsK K cl F ca vs kvs → (valKD kvs k = none → valV vs k = none) ∧ ∀ d, valKD kvs k = some d → ∃ v, valV vs k = some v ∧ Is K cl F ca v d
  | _, _, .nil => ⟨fun _ => rfl, fun d q => by cases q⟩
  | _, (k', d') :: kvs, .cons (v := v) (vs := vs) i t => by
    obtain ⟨h1, h2⟩ := isK_val (k := k) t
    by_cases z : k' = k
    · rw [valV_pos (show ((k', v) : Key × V).1 = k from z)]
      unfold valKD
      rw [if_pos z]
      exact ⟨(by intro q; cases q), fun d q => by
        cases q
        exact ⟨v, rfl, i⟩⟩
    · rw [valV_neg (show ¬ ((k', v) : Key × V).1 = k from z)]
      unfold valKD
      rw [if_neg z]
      exact ⟨h1, h2⟩
theorem isK_len : ∀ {vs : List (Key × V)} {kvs : List (Key × D)}, IsK K cl F ca vs kvs → vs.length = kvs.length
  | _, _, .nil => rfl
  | _, _, .cons _ t => by rw [List.length_cons, List.length_cons, isK_len t]
theorem isK_map {k : Key} {v : V} {d : D} (i : Is K cl F ca v d) : ∀ {vs : List (Key × V)} {kvs : List (Key × D)}, IsK K cl F ca vs kvs → IsK K cl F ca (vs.map fun p => if p.1 = k then (p.1, v) else p) (kvs.map fun p => (p.1, if p.1 = k then d else p.2))
  | _, _, .nil => .nil
  | _, (k', d') :: kvs, .cons (v := w) (vs := vs) j t => by
    have ih := isK_map i (k := k) t
    rw [List.map_cons, List.map_cons]
    by_cases z : k' = k
    · rw [if_pos z, if_pos z]
      exact .cons i ih
    · rw [if_neg z, if_neg z]
      exact .cons j ih
theorem isK_app : ∀ {vs ws : List (Key × V)} {kvs lvs : List (Key × D)}, IsK K cl F ca vs kvs → IsK K cl F ca ws lvs → IsK K cl F ca (vs ++ ws) (kvs ++ lvs)
  | _, _, _, _, .nil, t => t
  | _, _, _, _, .cons i s, t => .cons i (isK_app s t)
theorem isK_put {k : Key} {v : V} {d : D} {vs : List (Key × V)} {kvs : List (Key × D)} (h : IsK K cl F ca vs kvs) (i : Is K cl F ca v d) : IsK K cl F ca (putK vs k v) (putKD kvs k d) := by
  obtain ⟨h1, h2⟩ := isK_val (k := k) h
  unfold putK putKD
  rw [valV_any]
  cases z : valKD kvs k with
  | none =>
    rw [h1 z, if_neg (by simp)]
    exact isK_app h (.cons i .nil)
  | some x =>
    obtain ⟨w, hw, _⟩ := h2 x z
    rw [hw, if_pos (show (some w).isSome = true from rfl)]
    exact isK_map i h
end
section
variable {X : Cx} {cl : Cl} {e : Ent} {W : WX}
theorem dic_ok {F H : Hp} {ca : List Addr} {σ : L2.St} {s : S} {v : V} {j : Nat} {kvs : List (Key × D)} (b : Bx X cl e F H ca σ s) (h : Is X.K cl F ca v (.rf j)) (q : cellD s.ce[j]? = some kvs) : ∃ a vs, v = .ref a ∧ ca[j]? = some a ∧ F a = none ∧ H a = some (.dK vs) ∧ IsK X.K cl F ca vs kvs := by
  cases h with
  | rf hj =>
    obtain ⟨c, h1, h2⟩ := b.cel.at_ hj
    rw [h1] at q
    cases c with
    | dic ys =>
      cases q
      obtain ⟨hF, vs, h3, h4⟩ := h2
      exact ⟨_, vs, rfl, hj, hF, h3, h4⟩
    | _ => cases q
/-! {} -/
def dNewD : DE := fun s => .ok (.rf s.ce.length) ⟨s.sl, s.ce ++ [.dic []], s.n0⟩
theorem d_newd {pos : Pos} : PEd X cl e W (.Dict [] [] pos) dNewD := pe_w pe_dnewK fun σ H Q ⟨F, ca, s, b, q⟩ => fun p hp =>
  q (.ref p) F _ (ca ++ [p]) ((b.laid hp).cell (c := .dic []) ⟨b.notF hp, [], upd_same, .nil⟩ (b.notca hp) (b.notH0 hp)) (Ex.refl F) (Pre.app ca [p]) (.rf (pre_last b.cel.1))
/-! d[k] = v -/
def putK' (s : S) (d : D) : D → D → O
  | .rf j, y => match cellD s.ce[j]?, keyD y with
    | some kvs, some k => if kvs.length < 100000 then .nx ⟨s.sl, s.ce.set j (.dic (putKD kvs k d)), s.n0⟩ else .no
    | _, _ => .no
  | _, _ => .no
def sPutD (fo fk fv : DE) : DS := fun s => bindO (fv s) fun d s1 => bindO (fo s1) fun o s2 => bindO (fk s2) fun y s3 => putK' s3 d o y
theorem s_putd {st : Stmt} {fo fk fv : DE} (hst : PS X st (sDPut (rd X.K cl e W fo) (rd X.K cl e W fk) (rd X.K cl e W fv))) : PSd X cl e W st (sPutD fo fk fv) :=
  ps_w hst fun Dn σ H ⟨F, ca, s, b, q⟩ => by
    refine useS_rd b q fun v d s1 F1 H1 ca1 b1 i1 x1 p1 q1 => ?_
    refine useS_rd b1 q1 fun w o s2 F2 H2 ca2 b2 i2 x2 p2 q2 => ?_
    refine useS_rd b2 q2 fun u y s3 F3 H3 ca3 b3 i3 x3 p3 q3 => ?_
    cases o with
    | rf j =>
      have q4 : rdSK X.K cl e W F3 ca3 Dn (match cellD s3.ce[j]?, keyD y with
        | some kvs, some k => if kvs.length < 100000 then .nx ⟨s3.sl, s3.ce.set j (.dic (putKD kvs k d)), s3.n0⟩ else .no
        | _, _ => .no) := q3
      cases e1 : cellD s3.ce[j]? with
      | none =>
        rw [e1] at q4
        exact False.elim q4
      | some kvs =>
        rw [e1] at q4
        cases e2 : keyD y with
        | none =>
          rw [e2] at q4
          exact False.elim q4
        | some k =>
          rw [e2] at q4
          have q5 : rdSK X.K cl e W F3 ca3 Dn (if kvs.length < 100000 then .nx ⟨s3.sl, s3.ce.set j (.dic (putKD kvs k d)), s3.n0⟩ else .no) := q4
          by_cases hz : kvs.length < 100000
          · rw [if_pos hz] at q5
            obtain ⟨a, vs, rfl, ha, hF, hH, hi⟩ := dic_ok b3 (i2.mono x3 p3) e1
            refine ⟨a, _, rfl, .inl ⟨vs, k, hH, keyD_ok i3 e2, ?_, rfl⟩, ?_⟩
            · rw [isK_len hi]
              exact Nat.lt_of_lt_of_le hz (by decide)
            · exact q5 σ F3 _ ca3 (b3.write ha hF ⟨hF, _, upd_same, isK_put hi (i1.mono (x2.trans x3) (p2.trans p3))⟩) (Ex.refl F3) (Pre.refl ca3)
          · rw [if_neg hz] at q5
            exact False.elim q5
    | _ => exact False.elim q3
/-! d.get(k, x), d[k] -/
def getK (s : S) (x : D) : D → D → R
  | .rf j, y => match cellD s.ce[j]?, keyD y with
    | some kvs, some k => .ok ((valKD kvs k).getD x) s
    | _, _ => .no
  | _, _ => .no
def isDic (ce : List Cell) : D → Bool
  | .rf j => (cellD ce[j]?).isSome
  | _ => false
def dGetD (fo fk fx : DE) : DE := fun s => bindR (fo s) fun o s1 => if isDic s1.ce o = true then bindR (fk s1) fun y s2 => bindR (fx s2) fun x s3 => getK s3 x o y else .no
theorem d_getd {t0 : Expr} {fo fk fx : DE} (hst : PE X t0 (tDGet2 (rd X.K cl e W fo) (rd X.K cl e W fk) (rd X.K cl e W fx))) : PEd X cl e W t0 (dGetD fo fk fx) :=
  pe_w hst fun σ H Q ⟨F, ca, s, b, q⟩ => by
    refine use_rd b q fun v o s1 F1 H1 ca1 b1 i1 x1 p1 q1 => ?_
    by_cases hz : isDic s1.ce o = true
    · rw [if_pos hz] at q1
      cases o with
      | rf j =>
        obtain ⟨kv0, e0⟩ := Option.isSome_iff_exists.mp (show (cellD s1.ce[j]?).isSome = true from hz)
        obtain ⟨a, vs0, rfl, ha0, hF0, hH0, _⟩ := dic_ok b1 i1 e0
        refine ⟨a, rfl, .inl ⟨vs0, .inl hH0⟩, ?_⟩
        refine use_rd b1 q1 fun w y s2 F2 H2 ca2 b2 i2 x2 p2 q2 => ?_
        refine use_rd b2 q2 fun u x s3 F3 H3 ca3 b3 i3 x3 p3 q3 => ?_
        have q4 : rdK X.K cl e W σ F3 ca3 Q (match cellD s3.ce[j]?, keyD y with
          | some kvs, some k => .ok ((valKD kvs k).getD x) s3
          | _, _ => .no) := q3
        cases e1 : cellD s3.ce[j]? with
        | none =>
          rw [e1] at q4
          exact False.elim q4
        | some kvs =>
          rw [e1] at q4
          cases e2 : keyD y with
          | none =>
            rw [e2] at q4
            exact False.elim q4
          | some k =>
            rw [e2] at q4
            obtain ⟨a', vs, ea, ha, hF, hH, hi⟩ := dic_ok b3 (i1.mono (x2.trans x3) (p2.trans p3)) e1
            cases ea
            obtain ⟨h1, h2⟩ := isK_val (k := k) hi
            refine ⟨valV vs k, .inl ⟨vs, k, .inl hH, keyD_ok (i2.mono x3 p3) e2, rfl⟩, ?_⟩
            have q4 : rdK X.K cl e W σ F3 ca3 Q (.ok ((valKD kvs k).getD x) s3) := q4
            cases e3 : valKD kvs k with
            | none =>
              rw [e3] at q4
              rw [h1 e3]
              exact q4 _ F3 H3 ca3 b3 (Ex.refl F3) (Pre.refl ca3) i3
            | some d =>
              rw [e3] at q4
              obtain ⟨w', hw, iw⟩ := h2 d e3
              rw [hw]
              exact q4 _ F3 H3 ca3 b3 (Ex.refl F3) (Pre.refl ca3) iw
      | _ => cases hz
    · rw [if_neg hz] at q1
      exact False.elim q1
def subK (s : S) : D → D → R
  | .rf j, y => match cellD s.ce[j]?, keyD y with
    | some kvs, some k => poK s (match valKD kvs k with
      | some d => .v d
      | none => .no)
    | _, _ => .no
  | _, _ => .no
def dSubD (fo fk : DE) : DE := fun s => bindR (fo s) fun o s1 => bindR (fk s1) fun y s2 => subK s2 o y
theorem d_subd {t0 : Expr} {fo fk : DE} (hst : PE X t0 (tDGet (rd X.K cl e W fo) (rd X.K cl e W fk))) : PEd X cl e W t0 (dSubD fo fk) :=
  pe_w hst fun σ H Q ⟨F, ca, s, b, q⟩ => by
    refine use_rd b q fun v o s1 F1 H1 ca1 b1 i1 x1 p1 q1 => ?_
    refine use_rd b1 q1 fun w y s2 F2 H2 ca2 b2 i2 x2 p2 q2 => ?_
    cases o with
    | rf j =>
      have q4 : rdK X.K cl e W σ F2 ca2 Q (match cellD s2.ce[j]?, keyD y with
        | some kvs, some k => poK s2 (match valKD kvs k with
          | some d => .v d
          | none => .no)
        | _, _ => .no) := q2
      cases e1 : cellD s2.ce[j]? with
      | none =>
        rw [e1] at q4
        exact False.elim q4
      | some kvs =>
        rw [e1] at q4
        cases e2 : keyD y with
        | none =>
          rw [e2] at q4
          exact False.elim q4
        | some k =>
          rw [e2] at q4
          obtain ⟨a, vs, rfl, ha, hF, hH, hi⟩ := dic_ok b2 (i1.mono x2 p2) e1
          have q4 : rdK X.K cl e W σ F2 ca2 Q (poK s2 (match valKD kvs k with
            | some d => .v d
            | none => .no)) := q4
          cases e3 : valKD kvs k with
          | none =>
            rw [e3] at q4
            exact False.elim q4
          | some d =>
            rw [e3] at q4
            obtain ⟨w', hw, iw⟩ := (isK_val (k := k) hi).2 d e3
            exact ⟨a, w', rfl, .inl ⟨vs, k, .inl hH, keyD_ok i2 e2, hw.symm⟩, q4 _ F2 H2 ca2 b2 (Ex.refl F2) (Pre.refl ca2) iw⟩
    | _ => exact False.elim q2
/-! [x for x in d if d[x]] -/
def ofKey : Key → D
  | .inl i => .int i
  | .inr s => .str s
def truesK : List (Key × D) → Option (List D)
  | [] => some []
  | (k, .bl b) :: r => (truesK r).map fun l => if b = true then ofKey k :: l else l
  | _ => none
def keysTK (s : S) (kvs : List (Key × D)) : Option (List D) → R
  | some ks => if kvs.length ≤ 100000 ∧ (kvs.map (·.1)).Nodup then .nl ks s else .no
  | none => .no
def keysTD (s : S) : Option (List (Key × D)) → R
  | some kvs => keysTK s kvs (truesK kvs)
  | none => .no
def dKeysT (i j : Nat) : DE := fun s => match s.sl[i]? with
  | some (some (.rf c)) => if j < s.sl.length then keysTD s (cellD s.ce[c]?) else .no
  | _ => .no
def truV : List (Key × V) → List V
  | [] => []
  | (k, .bl true) :: r => kV k :: truV r
  | _ :: r => truV r
theorem truV_app : ∀ (l m : List (Key × V)), truV (l ++ m) = truV l ++ truV m
  | [], m => rfl
  | (k, v) :: l, m => by
    have ih := truV_app l m
    cases v with
    | bl b =>
      cases b with
      | true =>
        show kV k :: truV (l ++ m) = kV k :: (truV l ++ truV m)
        rw [ih]
      | false => exact ih
    | _ => exact ih
theorem truV_len : ∀ (l : List (Key × V)), (truV l).length ≤ l.length
  | [] => Nat.le_refl _
  | (k, v) :: l => by
    have ih := truV_len l
    cases v with
    | bl b =>
      cases b with
      | true => exact Nat.succ_le_succ ih
      | false => exact Nat.le_succ_of_le ih
    | _ => exact Nat.le_succ_of_le ih
theorem trues_ok {F : Hp} {ca : List Addr} : ∀ {vs : List (Key × V)} {kvs : List (Key × D)} {ks : List D}, IsK X.K cl F ca vs kvs → truesK kvs = some ks → IsL X.K cl F ca (truV vs) ks ∧ vs.map (·.1) = kvs.map (·.1) ∧ ∀ p ∈ vs, ∃ b, p.2 = V.bl b
  | _, _, _, .nil, q => by
    cases q
    exact ⟨.nil, rfl, fun p hp => by cases hp⟩
  | _, (k, d) :: kvs, ks, .cons (v := v) (vs := vs) i t, q => by
    cases d with
    | bl b =>
      have q' : (truesK kvs).map (fun l => if b = true then ofKey k :: l else l) = some ks := q
      cases e1 : truesK kvs with
      | none =>
        rw [e1] at q'
        cases q'
      | some l =>
        rw [e1] at q'
        cases q'
        obtain ⟨h1, h2, h3⟩ := trues_ok t e1
        cases i with
        | bl b =>
          refine ⟨?_, by rw [List.map_cons, List.map_cons, h2], fun p hp => ?_⟩
          · cases b with
            | true =>
              show IsL X.K cl F ca (kV k :: truV vs) (ofKey k :: l)
              refine .cons ?_ h1
              cases k with
              | inl i => exact .int i
              | inr s => exact .str s
            | false => exact h1
          · rcases List.mem_cons.mp hp with z | z
            · exact ⟨b, by rw [z]⟩
            · exact h3 p z
    | _ => cases q
theorem val_of_nodup : ∀ {vs : List (Key × V)} {n : Nat} {k : Key} {v : V}, (vs.map (·.1)).Nodup → vs[n]? = some (k, v) → valV vs k = some v
  | [], _, _, _, _, h => by simp at h
  | p :: vs, 0, k, v, _, h => by
    simp at h
    subst h
    exact valV_pos rfl
  | p :: vs, n + 1, k, v, nd, h => by
    have h' : vs[n]? = some (k, v) := by simpa using h
    rw [List.map_cons, List.nodup_cons] at nd
    have hne : ¬ p.1 = k := fun z => nd.1 (by
      rw [z]
      exact List.mem_map.mpr ⟨(k, v), List.mem_of_getElem? h', rfl⟩)
    rw [valV_neg hne]
    exact val_of_nodup nd.2 h'
theorem d_keysT {i j : Nat} {x0 : Expr} {vs : List Nat} (hj : j ∈ vs) (hi : i ∉ vs)
    (hp : PE X x0 (tLockE (tLc (iKeys (tVar i)) (gName j) (fun σ H Q => tDGet (tVar i) (tVar j) σ H fun x H' => ∃ b, x = .bl b ∧ Q b H') (tVar j) vs))) : PEd X cl e W x0 (dKeysT i j) :=
  pe_w hp fun σ H Q ⟨F, ca, s, b, q⟩ => by
    have hij : i ≠ j := fun z => hi (z ▸ hj)
    unfold dKeysT at q
    cases z : s.sl[i]? with
    | none =>
      rw [z] at q
      exact False.elim q
    | some o =>
      rw [z] at q
      cases o with
      | none => exact False.elim q
      | some d =>
        obtain ⟨v, h1, h2⟩ := b.slo i d z
        cases d with
        | rf jc =>
          have q1 : rdK X.K cl e W σ F ca Q (if j < s.sl.length then keysTD s (cellD s.ce[jc]?) else .no) := q
          by_cases hjs : j < s.sl.length
          case neg =>
            rw [if_neg hjs] at q1
            exact False.elim q1
          rw [if_pos hjs] at q1
          cases e1 : cellD s.ce[jc]? with
          | none =>
            rw [e1] at q1
            exact False.elim q1
          | some kvs =>
            rw [e1] at q1
            have q2 : rdK X.K cl e W σ F ca Q (keysTK s kvs (truesK kvs)) := q1
            cases e2 : truesK kvs with
            | none =>
              rw [e2] at q2
              exact False.elim q2
            | some ks =>
              rw [e2] at q2
              have q3 : rdK X.K cl e W σ F ca Q (if kvs.length ≤ 100000 ∧ (kvs.map (·.1)).Nodup then .nl ks s else .no) := q2
              by_cases hz : kvs.length ≤ 100000 ∧ (kvs.map (·.1)).Nodup
              · rw [if_pos hz] at q3
                obtain ⟨a, us, rfl, ha, hF, hH, hK⟩ := dic_ok b h2 e1
                obtain ⟨t1, t2, t3⟩ := trues_ok hK e2
                have nd : (us.map (·.1)).Nodup := by
                  rw [t2]
                  exact hz.2
                have hlen := isK_len hK
                refine ⟨a, .dK us, hH, trivial, fun od => ⟨.ref a, h1, a, od, rfl, .inl ⟨us, upd_same, fun Dl hD => ?_⟩⟩⟩
                have ne : a ≠ Dl := fun w => by
                  subst w
                  rw [upd_same] at hD
                  cases hD
                have hD0 : H Dl = none := by
                  rw [upd_ne (Ne.symm ne)] at hD
                  exact hD
                refine ⟨fun n m H' => m = us.length - n ∧ n ≤ us.length ∧ H' = upd (upd H a (.frz od (.dK us))) Dl (.lst (truV (us.take n))), ⟨us.length, rfl, Nat.zero_le _, rfl⟩, ?_⟩
                rintro n m H' ⟨rfl, hle, rfl⟩
                have hat : upd (upd H a (.frz od (.dK us))) Dl (.lst (truV (us.take n))) a = some (.frz od (.dK us)) := by
                  rw [upd_ne ne, upd_same]
                by_cases hlt : n < us.length
                · refine .inr ⟨⟨hat, hlt⟩, fun H' => H' = upd (upd H a (.frz od (.dK us))) Dl (.lst (truV (us.take (n + 1)))), fun H' r => ⟨us.length - (n + 1), by omega, rfl, hlt, r⟩, fun x H2 y => ?_⟩
                  obtain ⟨rfl, k, w, hk, rfl⟩ := y
                  refine ⟨?_, ?_⟩
                  · refine wipe_ext (by rw [List.length_set, wipe_length]) fun l hl => ?_
                    rw [List.getElem?_set_ne (fun w => hl (by rw [← w]; exact hj))]
                    have gen : ∀ (ρ : L2.St) (ws : List Nat), l ∉ ws → (wipe ρ ws)[l]? = ρ[l]? := by
                      intro ρ ws
                      induction ws with
                      | nil => intro _; rfl
                      | cons w ws ih =>
                        intro hn
                        unfold wipe
                        rw [List.getElem?_set_ne (fun z => hn (by rw [z]; exact List.mem_cons_self))]
                        exact ih fun z => hn (List.mem_cons_of_mem _ z)
                    exact gen σ vs hl
                  · obtain ⟨bb, hb⟩ := t3 (k, w) (List.mem_of_getElem? hk)
                    have hb' : w = .bl bb := hb
                    subst hb'
                    have hjl : j < (wipe σ vs).length := by rw [wipe_length, ← b.len]; exact hjs
                    have hx : ((wipe σ vs).set j (some (kV k)))[j]? = some (some (kV k)) := by
                      rw [List.getElem?_set_self hjl]
                    refine ⟨.ref a, ?_, kV k, hx, a, .bl bb, rfl, .inl ⟨us, k, .inr ⟨od, hat⟩, rfl, (val_of_nodup nd hk).symm⟩, bb, rfl, ?_⟩
                    · rw [List.getElem?_set_ne (Ne.symm hij)]
                      exact wipe_keep hi h1
                    · have et : us.take (n + 1) = us.take n ++ [(k, .bl bb)] := by
                        rw [List.take_add_one, hk] <;> rfl
                      cases bb with
                      | false =>
                        show upd (upd H a (.frz od (.dK us))) Dl (.lst (truV (us.take n))) = upd (upd H a (.frz od (.dK us))) Dl (.lst (truV (us.take (n + 1))))
                        rw [et, truV_app]
                        show _ = upd _ Dl (.lst (truV (us.take n) ++ []))
                        rw [List.append_nil]
                      | true =>
                        refine ⟨kV k, hx, truV (us.take n), upd_same, ?_, ?_⟩
                        · have l1 := truV_len (us.take n)
                          have l2 : (us.take n).length ≤ us.length := by rw [List.length_take]; omega
                          rw [sizeLine_eq]
                          omega
                        · rw [L2.upd_upd, et, truV_app] <;> rfl
                · have en : n = us.length := by omega
                  subst en
                  refine .inl ⟨⟨hat, Nat.le_refl _⟩, hat, ?_⟩
                  have eH : upd (upd (upd H a (.frz od (.dK us))) Dl (.lst (truV (us.take us.length)))) a (.dK us) = upd H Dl (.lst (truV us)) := by
                    funext c
                    by_cases w : c = a
                    · subst w
                      rw [upd_same, upd_ne ne, hH]
                    · rw [upd_ne w]
                      by_cases w2 : c = Dl
                      · subst w2
                        rw [upd_same, upd_same, List.take_length]
                      · rw [upd_ne w2, upd_ne w2, upd_ne w]
                  rw [eH]
                  exact q3 (.ref Dl) F _ ca (b.laid hD0) (Ex.refl F) (Pre.refl ca) ⟨Dl, _, rfl, upd_same, t1, b.notF hD0, b.notca hD0, b.notH0 hD0⟩
              · rw [if_neg hz] at q3
                exact False.elim q3
        | _ => exact False.elim q
end
end Dv

set_option maxRecDepth 100000
set_option maxHeartbeats 4000000
/-! a def by its body and its function -/
namespace Dv
open PySem PySem.Spec PyProof.Rows L2
section
variable {P : Program} {w : World} {K : PySem.W.Frag} {mg : Str → Option Value} {base : Heap} {cl : Cl}
theorem def_ok {x qual : Str} {st : Stmt} {f : Addr} {fd : FuncData} {N ps : List Str} {k n : Nat} {m : Fn} {b : DS} (Fu : L2.Fun K x qual st f fd) (Sc : FnScope N ps (defScope st)) (hn : ps.length = n) (hN : n ≤ N.length) (hd : Does N.length b m)
    (hb : ∀ (cdv : Value) (A : Around) (outer : List Env) (s : Shared) (H : Hp) (E : XK) (e : Ent), Room k (A.deeper (envOfC qual (defScope st) s.heap.objs.size f cdv)) →
      Takes (cxOf (L2.CX P w) P w K mg base N qual (defScope st) f cdv A outer s H E) (fun cls d _ H => E cls d H) →
      PSsd (cxOf (L2.CX P w) P w K mg base N qual (defScope st) f cdv A outer s H E) cl e (fun cls d _ H => E cls d H) (defBody st) b) : FnOk P w K mg base (L2.CX P w) (k + 1) f fd ps (spD K cl n m) := by
  refine Fu.okX Sc (fun vs H Q E h => h.1.trans hn.symm) fun cdv A outer s H vs Q E hr h => ?_
  obtain ⟨e, q⟩ := body_ok (X := cxOf (L2.CX P w) P w K mg base N qual (defScope st) f cdv A outer s H E) hN hd h
  exact ⟨_, hb cdv A outer s H E e hr (takes_of rfl rfl rfl rfl), q⟩
end
end Dv

set_option maxRecDepth 100000
set_option maxHeartbeats 4000000
/-! short words for the terms -/
namespace Dv
open PySem PySem.Spec PyProof.Rows L2

/-! ### a, b = x, y -/
def bindAO : RA → (List D → S → O) → O
  | .ok d s, k => k d s
  | .er x s, _ => .er x s
  | .no, _ => .no
def par2 (i j : Nat) (s : S) : List D → O
  | [a, b] => .nx ⟨(s.sl.set i (some a)).set j (some b), s.ce, s.n0⟩
  | _ => .no
def par3 (i j l : Nat) (s : S) : List D → O
  | [a, b, c] => .nx ⟨((s.sl.set i (some a)).set j (some b)).set l (some c), s.ce, s.n0⟩
  | _ => .no
def sPar2 (i j : Nat) (g : DA) : DS := fun s => bindAO (g s) fun ds s1 => par2 i j s1 ds
def sPar3 (i j l : Nat) (g : DA) : DS := fun s => bindAO (g s) fun ds s1 => par3 i j l s1 ds
section
variable {X : Cx} {cl : Cl} {e : Ent} {W : WX} {a b c o : Expr} {f g h : DE} {ga : DA} {es : List Expr} {pos : Pos} {st : Stmt} {x : Str} {p : Pos}
theorem useS_rdA {F H : Hp} {ca : List Addr} {σ : L2.St} {s : S} {Dn : Ends} {Z : List V → Hp → Prop} {k : List D → S → O} (bb : Bx X cl e F H ca σ s) (q : rdSK X.K cl e W F ca Dn (bindAO (ga s) k))
    (go : ∀ vs ds s1 F1 H1 ca1, Bx X cl e F1 H1 ca1 σ s1 → IsL X.K cl F1 ca1 vs ds → Ex F F1 → Pre ca ca1 → rdSK X.K cl e W F1 ca1 Dn (k ds s1) → Z vs H1) : rdA X.K cl e W ga σ H Z := by
  refine ⟨F, ca, s, bb, ?_⟩
  cases e1 : ga s with
  | ok d s1 =>
    rw [e1] at q
    exact fun v F1 H1 ca1 b1 x p i => go v d s1 F1 H1 ca1 b1 i x p (q.back x p)
  | er xc s1 =>
    rw [e1] at q
    exact fun cls dd F' H' ca' b' x' p' xo => q cls dd σ F' H' ca' b' x' p' xo
  | no =>
    rw [e1] at q
    exact False.elim q
theorem s_par2 {i j : Nat} (hst : PS X st (tPar i j (rdA X.K cl e W ga))) : PSd X cl e W st (sPar2 i j ga) := ps_w hst fun Dn σ H ⟨F, ca, s, bb, q⟩ => by
  refine useS_rdA bb q fun vs ds s1 F1 H1 ca1 b1 i1 x1 p1 q1 => ?_
  cases i1 with
  | nil => exact False.elim q1
  | cons j1 t =>
    cases t with
    | nil => exact False.elim q1
    | cons j2 t =>
      cases t with
      | nil => exact ⟨_, _, rfl, q1 _ F1 H1 ca1 ((b1.put j1).put j2) (Ex.refl F1) (Pre.refl ca1)⟩
      | cons _ _ => exact False.elim q1
theorem s_par3 {i j l : Nat} (hst : PS X st (tPar3 i j l (rdA X.K cl e W ga))) : PSd X cl e W st (sPar3 i j l ga) := ps_w hst fun Dn σ H ⟨F, ca, s, bb, q⟩ => by
  refine useS_rdA bb q fun vs ds s1 F1 H1 ca1 b1 i1 x1 p1 q1 => ?_
  cases i1 with
  | nil => exact False.elim q1
  | cons j1 t =>
    cases t with
    | nil => exact False.elim q1
    | cons j2 t =>
      cases t with
      | nil => exact False.elim q1
      | cons j3 t =>
        cases t with
        | nil => exact ⟨_, _, _, rfl, q1 _ F1 H1 ca1 (((b1.put j1).put j2).put j3) (Ex.refl F1) (Pre.refl ca1)⟩
        | cons _ _ => exact False.elim q1

/-! ### tests -/
theorem t_pw {tb : DB} (hh : PWd X cl e W a tb) : PTd X cl e W a tb := ⟨fun pins s σ H Q I hw => hh.run _ pins s σ H Q I hw⟩
theorem t_and1 {tb : DB} (hh : PTd X cl e W a tb) : PWd X cl e W (.BoolOp .And [a] pos) tb := pw_and1 hh
theorem t_or1 {tb : DB} (hh : PTd X cl e W a tb) : PWd X cl e W (.BoolOp .Or [a] pos) tb := pw_or1 hh

/-! ### operators -/
theorem e_add (ha : PEd X cl e W a f) (hb : PEd X cl e W b g) : PEd X cl e W (.BinOp a .Add b pos) (dOp pAdd f g) := d_op op_addAll od_add ha hb
theorem e_sub (ha : PEd X cl e W a f) (hb : PEd X cl e W b g) : PEd X cl e W (.BinOp a .Sub b pos) (dOp pSub f g) := d_op op_sub od_sub ha hb
theorem e_mul (ha : PEd X cl e W a f) (hb : PEd X cl e W b g) : PEd X cl e W (.BinOp a .Mult b pos) (dOp pMul f g) := d_op op_mulW od_mul ha hb
theorem e_div (ha : PEd X cl e W a f) (hb : PEd X cl e W b g) : PEd X cl e W (.BinOp a .FloorDiv b pos) (dOp pDiv f g) := d_op op_fdivW od_div ha hb
theorem e_mod (ha : PEd X cl e W a f) (hb : PEd X cl e W b g) : PEd X cl e W (.BinOp a .Mod b pos) (dOp pMod f g) := d_op op_mod od_mod ha hb
theorem e_pow (ha : PEd X cl e W a f) (hb : PEd X cl e W b g) : PEd X cl e W (.BinOp a .Pow b pos) (dOp pPow f g) := d_op op_powW od_pow ha hb
theorem e_neg (ha : PEd X cl e W a f) : PEd X cl e W (.UnaryOp .USub a pos) (dUn pNeg f) := d_un un_neg ud_neg ha
abbrev pLt := pCmp fun i j => decide (i < j)
abbrev pLe := pCmp fun i j => decide (i ≤ j)
abbrev pGt := pCmp fun i j => decide (j < i)
abbrev pGe := pCmp fun i j => decide (j ≤ i)
theorem e_lt (ha : PEd X cl e W a f) (hb : PEd X cl e W b g) : PEd X cl e W (.Compare a [.Lt] [b] pos) (dOp pLt f g) := d_cmp op_lt (od_cmp _) ha hb (nomark _)
theorem e_le (ha : PEd X cl e W a f) (hb : PEd X cl e W b g) : PEd X cl e W (.Compare a [.LtE] [b] pos) (dOp pLe f g) := d_cmp op_le (od_cmp _) ha hb (nomark _)
theorem e_gt (ha : PEd X cl e W a f) (hb : PEd X cl e W b g) : PEd X cl e W (.Compare a [.Gt] [b] pos) (dOp pGt f g) := d_cmp op_gt (od_cmp _) ha hb (nomark _)
theorem e_ge (ha : PEd X cl e W a f) (hb : PEd X cl e W b g) : PEd X cl e W (.Compare a [.GtE] [b] pos) (dOp pGe f g) := d_cmp op_ge (od_cmp _) ha hb (nomark _)
theorem c_lt (ha : PEd X cl e W a f) (hb : PEd X cl e W b g) : PTd X cl e W (.Compare a [.Lt] [b] pos) (bTest (dOp pLt f g)) := t_cmp op_lt (od_cmp _) ha hb (nomark _)
theorem c_le (ha : PEd X cl e W a f) (hb : PEd X cl e W b g) : PTd X cl e W (.Compare a [.LtE] [b] pos) (bTest (dOp pLe f g)) := t_cmp op_le (od_cmp _) ha hb (nomark _)
theorem c_gt (ha : PEd X cl e W a f) (hb : PEd X cl e W b g) : PTd X cl e W (.Compare a [.Gt] [b] pos) (bTest (dOp pGt f g)) := t_cmp op_gt (od_cmp _) ha hb (nomark _)
theorem c_ge (ha : PEd X cl e W a f) (hb : PEd X cl e W b g) : PTd X cl e W (.Compare a [.GtE] [b] pos) (bTest (dOp pGe f g)) := t_cmp op_ge (od_cmp _) ha hb (nomark _)
theorem e_eq (hu : X.A.units + 64 < cLine) (ha : PEd X cl e W a f) (hb : PEd X cl e W b g) : PEd X cl e W (.Compare a [.Eq] [b] pos) (dOp pEq f g) := d_cmp (op_eqD hu) od_eq ha hb (nomark _)
theorem c_eq (hu : X.A.units + 64 < cLine) (ha : PEd X cl e W a f) (hb : PEd X cl e W b g) : PTd X cl e W (.Compare a [.Eq] [b] pos) (bTest (dOp pEq f g)) := t_cmp (op_eqD hu) od_eq ha hb (nomark _)
theorem e_ne (hu : X.A.units + 64 < cLine) (ha : PEd X cl e W a f) (hb : PEd X cl e W b g) : PEd X cl e W (.Compare a [.NotEq] [b] pos) (dOp pNe f g) := d_cmp (op_neD hu) od_ne ha hb (nomark _)
theorem c_ne (hu : X.A.units + 64 < cLine) (ha : PEd X cl e W a f) (hb : PEd X cl e W b g) : PTd X cl e W (.Compare a [.NotEq] [b] pos) (bTest (dOp pNe f g)) := t_cmp (op_neD hu) od_ne ha hb (nomark _)

/-! ### displays, built-ins -/
theorem e_lst (ha : PAd X cl e W es ga) : PEd X cl e W (.List es pos) (dLst ga) := d_lst ha (pe_lst ha)
theorem e_tup {kx} (ha : PAd X cl e W es ga) : PEd X cl e W (.Tuple es kx pos) (dTup ga) := d_tup ha (pe_tup ha)
section
variable {hst : starEach (a :: es) X.env = (false, eval a X.env) :: starEach es X.env} {hpl : (backTo pos (starEach es X.env)).any (·.1) = false}
theorem e_len (hg : Gl X "len") (hz : X.mg "len" = none) (ha : PAd X cl e W (a :: es) ga) (hst : starEach (a :: es) X.env = (false, eval a X.env) :: starEach es X.env := by rfl) (hpl : (backTo pos (starEach es X.env)).any (·.1) = false := by rfl) : PEd X cl e W (.Call (.Name "len" p) (a :: es) [] pos) (dBi (b1 lenD) ga) :=
  pe_w (pe_callB call_lenAll hg hz PySem.boot_len ha (by decide) (by decide) hst hpl) fun _ _ _ q => rd_bi bd_len q
theorem e_abs (hg : Gl X "abs") (hz : X.mg "abs" = none) (ha : PAd X cl e W (a :: es) ga) (hst : starEach (a :: es) X.env = (false, eval a X.env) :: starEach es X.env := by rfl) (hpl : (backTo pos (starEach es X.env)).any (·.1) = false := by rfl) : PEd X cl e W (.Call (.Name "abs" p) (a :: es) [] pos) (dBi (b1 absD) ga) :=
  pe_w (pe_callB call_abs hg hz (by decide +kernel) ha (by decide) (by decide) hst hpl) fun _ _ _ q => rd_bi bd_abs q
theorem e_max (hc : X.calm = true) (hg : Gl X "max") (hz : X.mg "max" = none) (ha : PAd X cl e W (a :: es) ga) (hst : starEach (a :: es) X.env = (false, eval a X.env) :: starEach es X.env := by rfl) (hpl : (backTo pos (starEach es X.env)).any (·.1) = false := by rfl) : PEd X cl e W (.Call (.Name "max" p) (a :: es) [] pos) (dBi (b2 maxD) ga) :=
  pe_w (pe_callB (call_max2 hc) hg hz (by decide +kernel) ha (by decide) (by decide) hst hpl) fun _ _ _ q => rd_bi bd_max q
theorem e_min (hc : X.calm = true) (hg : Gl X "min") (hz : X.mg "min" = none) (ha : PAd X cl e W (a :: es) ga) (hst : starEach (a :: es) X.env = (false, eval a X.env) :: starEach es X.env := by rfl) (hpl : (backTo pos (starEach es X.env)).any (·.1) = false := by rfl) : PEd X cl e W (.Call (.Name "min" p) (a :: es) [] pos) (dBi (b2 minD) ga) :=
  pe_w (pe_callB (call_min2 hc) hg hz (by decide +kernel) ha (by decide) (by decide) hst hpl) fun _ _ _ q => rd_bi bd_min q
theorem e_int (hg : Gl X "int") (hz : X.mg "int" = none) (ha : PAd X cl e W (a :: es) ga) (hst : starEach (a :: es) X.env = (false, eval a X.env) :: starEach es X.env := by rfl) (hpl : (backTo pos (starEach es X.env)).any (·.1) = false := by rfl) : PEd X cl e W (.Call (.Name "int" p) (a :: es) [] pos) (dBi (b1 intD) ga) :=
  pe_w (pe_callTy call_int1 hg hz (by decide +kernel) ha (by decide) (by decide) hst hpl) fun _ _ _ q => rd_bi bd_int q
theorem e_list (hg : Gl X "list") (hz : X.mg "list" = none) (ha : PAd X cl e W (a :: es) ga) (hst : starEach (a :: es) X.env = (false, eval a X.env) :: starEach es X.env := by rfl) (hpl : (backTo pos (starEach es X.env)).any (·.1) = false := by rfl) : PEd X cl e W (.Call (.Name "list" p) (a :: es) [] pos) (dBi (b1 listD) ga) :=
  pe_w (pe_callTy call_list_of hg hz (by decide +kernel) ha (by decide) (by decide) hst hpl) fun _ _ _ q => rd_bi bd_list q
theorem e_sorted (hg : Gl X "sorted") (hz : X.mg "sorted" = none) (ha : PAd X cl e W (a :: es) ga) (hst : starEach (a :: es) X.env = (false, eval a X.env) :: starEach es X.env := by rfl) (hpl : (backTo pos (starEach es X.env)).any (·.1) = false := by rfl) : PEd X cl e W (.Call (.Name "sorted" p) (a :: es) [] pos) (dBi (b1 sortedD) ga) :=
  pe_w (pe_callB cr_sortedI hg hz (by decide +kernel) ha (by decide) (by decide) hst hpl) fun _ _ _ q => rd_bi bd_sorted q
theorem e_all (hc : X.calm = true) (hg : Gl X "all") (hz : X.mg "all" = none) (ha : PAd X cl e W (a :: es) ga) (hst : starEach (a :: es) X.env = (false, eval a X.env) :: starEach es X.env := by rfl) (hpl : (backTo pos (starEach es X.env)).any (·.1) = false := by rfl) : PEd X cl e W (.Call (.Name "all" p) (a :: es) [] pos) (dBi (b1 allD) ga) :=
  pe_w (pe_callB (cr_all hc) hg hz (by decide +kernel) ha (by decide) (by decide) hst hpl) fun _ _ _ q => rd_bi bd_all q
theorem e_gcd (hg : Gl X x) (hz : X.mg x = some (.builtin "math.gcd")) (ha : PAd X cl e W (a :: es) ga) (hdb : (x == ("__debug__" : Str)) = false := by decide) (hst : starEach (a :: es) X.env = (false, eval a X.env) :: starEach es X.env := by rfl) (hpl : (backTo pos (starEach es X.env)).any (·.1) = false := by rfl) : PEd X cl e W (.Call (.Name x p) (a :: es) [] pos) (dBi (b2 gcdD) ga) :=
  pe_w (pe_callBfun cr_gcd hg hz ha hdb hst hpl) fun _ _ _ q => rd_bi bd_gcd q
theorem e_lcm (hg : Gl X x) (hz : X.mg x = some (.builtin "math.lcm")) (ha : PAd X cl e W (a :: es) ga) (hdb : (x == ("__debug__" : Str)) = false := by decide) (hst : starEach (a :: es) X.env = (false, eval a X.env) :: starEach es X.env := by rfl) (hpl : (backTo pos (starEach es X.env)).any (·.1) = false := by rfl) : PEd X cl e W (.Call (.Name x p) (a :: es) [] pos) (dBi (b2 lcmD) ga) :=
  pe_w (pe_callBfun cr_lcm hg hz ha hdb hst hpl) fun _ _ _ q => rd_bi bd_lcm q
end
/-! ### isinstance -/
def okBt : TyT → Bool
  | .own _ => false
  | _ => true
def ansInt : TyT → Bool
  | .int => true
  | .bl => true
  | _ => false
def ansBl : TyT → Bool
  | .bl => true
  | _ => false
def ansLst : TyT → Bool
  | .lst => true
  | _ => false
def okOwn (c : Nat) : TyT → Bool
  | .own k => k == c
  | _ => false
theorem kit_int {K : PySem.W.Frag} : ∀ t, okBt t = true → PySem.W.kitOne K (valT cl t) (.type "int") = some (ansInt t)
  | .non, _ => by rfl
  | .bl, _ => by rfl
  | .int, _ => by rfl
  | .str, _ => by rfl
  | .lst, _ => by rfl
  | .tup, _ => by rfl
  | .own c, h => by cases h
theorem kit_bl {K : PySem.W.Frag} : ∀ t, okBt t = true → PySem.W.kitOne K (valT cl t) (.type "bool") = some (ansBl t)
  | .non, _ => by rfl
  | .bl, _ => by rfl
  | .int, _ => by rfl
  | .str, _ => by rfl
  | .lst, _ => by rfl
  | .tup, _ => by rfl
  | .own c, h => by cases h
theorem kit_lst {K : PySem.W.Frag} : ∀ t, okBt t = true → PySem.W.kitOne K (valT cl t) (.type "list") = some (ansLst t)
  | .non, _ => by rfl
  | .bl, _ => by rfl
  | .int, _ => by rfl
  | .str, _ => by rfl
  | .lst, _ => by rfl
  | .tup, _ => by rfl
  | .own c, h => by cases h
theorem kit_own {K : PySem.W.Frag} (c : Nat) : ∀ t, okOwn c t = true → PySem.W.kitOne K (valT cl t) (.ref (cl c)) = some ((fun _ => true) t)
  | .own k, h => by
    have hk : k = c := by simpa [okOwn] using h
    subst hk
    unfold PySem.W.kitOne
    rw [if_pos (by simp [valT])]
  | .non, h => by cases h
  | .bl, h => by cases h
  | .int, h => by cases h
  | .str, h => by cases h
  | .lst, h => by cases h
  | .tup, h => by cases h
end
end Dv

set_option maxRecDepth 100000
set_option maxHeartbeats 4000000
namespace Dv
open PySem PySem.Spec PyProof.Rows L2
abbrev dBin (c0 n : Nat) (m : Fn) (f g : DE) : DE := dEqO c0 n m f g
section
variable {X : Cx} {cl : Cl} {e : Ent} {W : WX} {a b c o : Expr} {f g h : DE} {ga : DA} {es : List Expr} {pos : Pos} {st : Stmt} {x : Str} {p : Pos}
theorem e_gc {v : V} (hg : Gl X x) (h : ∃ u, X.mg x = some u ∧ RelV v u) (hd : (x == ("__debug__" : Str)) = false := by decide) : PE X (.Name x p) (tC v) := by
  obtain ⟨u, h1, h2⟩ := h
  exact pe_glob hg h1 h2 hd
/-- a test by a comparison of one's own -/
theorem c_own (hh : PC X .Eq a b (rd X.K cl e W f)) : PTd X cl e W (.Compare a [.Eq] [b] pos) (bTest f) := pt_w (pt_cmp hh) fun _ _ _ q => rd_test q
theorem e_in (ha : PEd X cl e W a f) (hb : PEd X cl e W b g) (hm : behindInMarks .In b = false := by rfl) : PEd X cl e W (.Compare a [.In] [b] pos) (dOp (pIn false) f g) := d_cmp op_in_seq (od_in false) ha hb hm
theorem c_in (ha : PEd X cl e W a f) (hb : PEd X cl e W b g) (hm : behindInMarks .In b = false := by rfl) : PTd X cl e W (.Compare a [.In] [b] pos) (bTest (dOp (pIn false) f g)) := t_cmp op_in_seq (od_in false) ha hb hm
theorem e_notin (ha : PEd X cl e W a f) (hb : PEd X cl e W b g) (hm : behindInMarks .NotIn b = false := by rfl) : PEd X cl e W (.Compare a [.NotIn] [b] pos) (dOp (pIn true) f g) := d_cmp op_notIn_seq (od_in true) ha hb hm
theorem c_notin (ha : PEd X cl e W a f) (hb : PEd X cl e W b g) (hm : behindInMarks .NotIn b = false := by rfl) : PTd X cl e W (.Compare a [.NotIn] [b] pos) (bTest (dOp (pIn true) f g)) := t_cmp op_notIn_seq (od_in true) ha hb hm
end
end Dv
namespace Dv
open PySem PySem.Spec PyProof.Rows L2
section
variable {X : Cx} {cl : Cl} {e : Ent} {W : WX} {a b c o : Expr} {f g h : DE} {ga : DA} {es : List Expr} {pos : Pos} {st : Stmt} {x : Str} {p : Pos} {c0 n k : Nat} {m : Fn} {fa : Addr} {fd : FuncData} {ps : List Str}
/-- a def's run by its promise, within the call of a built-in -/
theorem run_fnIn {pins : List (Addr × Obj)} {σ : L2.St} {H : Hp} {s : Shared} {Q : VK} {us : List Value} {vs : List V} {sp : Sp} {E : L2.St → XK} (Fo : FnOk X.prog X.w X.K X.mg X.base (L2.CX X.prog X.w) k fa fd ps sp) (hr : Room (k + 1) X.A) (hb : Binds X.K fd ps []) (hx : PassesAt (L2.CX X.prog X.w) X σ (E σ))
    (I : Inv X pins σ H s) (r : Vals vs us) (h : sp vs H Q (E σ)) : wpAny (model X.prog X.w) X.A.in1 (call (.ref fa) us) (EP X pins σ Q) X.xe s := by
  have hl : (us ++ []).length = ps.length := (congrArg List.length (List.append_nil us)).trans (r.length.symm.trans (Fo.len _ _ _ _ h))
  have b := hb s us I.kIn hl
  rw [List.append_nil] at b
  refine wpAny_call (codeAny_mono (Fo.run X.A.in1 X.stack s H ⟨us, []⟩ us vs Q (E σ) hr.in1 I.env0.in1 b r h) fun r s' hq => ?_)
  cases r with
  | ok fl => cases fl with
    | ret u => exact I.after hq
    | _ => exact False.elim hq
  | error er => exact hx pins H s er s' I hq
/-- len(o), o an instance of the text's class -/
def lenR : R → R
  | .ok (.int i) s => if 0 ≤ i ∧ i < 1000000 then .ok (.int i) s else .no
  | .er x s => .er x s
  | _ => .no
def dLenO (c0 : Nat) (m : Fn) (f : DE) : DE := fun s => bindR (f s) fun d s1 => lenR (ownK c0 1 m s1 [d] (instF c0 s1.ce d))
theorem lenR_w {F : Hp} {ca : List Addr} {σ : L2.St} {Q : VK} {r : R} (q : rdK X.K cl e W σ F ca Q (lenR r)) : rdK X.K cl e W σ F ca (fun v H => ∃ i : Int, v = .int i ∧ 0 ≤ i ∧ i < 1000000 ∧ Q v H) r := by
  cases r with
  | ok d s =>
    cases d with
    | int i =>
      have q' : rdK X.K cl e W σ F ca Q (if 0 ≤ i ∧ i < 1000000 then .ok (.int i) s else .no) := q
      by_cases hz : 0 ≤ i ∧ i < 1000000
      · rw [if_pos hz] at q'
        intro v F' H' ca' b x p iv
        have z := q' v F' H' ca' b x p iv
        cases iv
        exact ⟨i, rfl, hz.1, hz.2, z⟩
      · rw [if_neg hz] at q'
        exact False.elim q'
    | _ => exact False.elim q
  | er xc s => exact q
  | _ => exact False.elim q
theorem e_lenO (Fo : FnOk X.prog X.w X.K X.mg X.base (L2.CX X.prog X.w) k fa fd ps (spD X.K cl 1 m)) (hr : Room (k + 1) X.A) (hb : Binds X.K fd ps []) (tk : Takes X W)
    (hs : PySem.W.findIn X.K (.ref (cl c0)) "__len__" = some (some (.ref fa))) (hf : PySem.W.isFn X.K (.ref fa) = true) (hg : Gl X "len") (hz : X.mg "len" = none)
    (ha : PEd X cl e W a f) (hst : starEach [a] X.env = (false, eval a X.env) :: starEach [] X.env := by rfl) (hpl : (backTo pos (starEach [] X.env)).any (·.1) = false := by rfl) :
    PEd X cl e W (.Call (.Name "len" p) [a] [] pos) (dLenO c0 m f) := by
  refine ⟨fun pins s σ H Q I h => ?_⟩
  obtain ⟨F, ca, s0, b0, q⟩ := h
  refine Call_ (ld_blt I hg hz PySem.boot_len ?_)
  refine PyProof.Rows.callWith_builtin1 (PyProof.Rows.args_cons (thn (ha.run pins s σ H _ I (use_rd b0 q fun v d s1 F1 H1 ca1 b1 i1 x1 p1 q1 => (⟨d, s1, F1, ca1, b1, i1, q1⟩ : ∃ d s1 F1 ca1, Bx X cl e F1 H1 ca1 σ s1 ∧ Is X.K cl F1 ca1 v d ∧ rdK X.K cl e W σ F1 ca1 Q (lenR (ownK c0 1 m s1 [d] (instF c0 s1.ce d)))))) fun u s1 ⟨v, H1, I1, r1, d, t1, F1, ca1, b1, i1, q1⟩ => PyProof.Rows.args_nil ?_) hst) hst hpl
  obtain ⟨hsp, fs, e2⟩ := own_sp b1 (.one i1) (lenR_w q1)
  obtain ⟨y, dx, vs, rfl, hH, hi⟩ := inst_ok b1 i1 e2
  obtain rfl : u = Value.ref y := r1
  obtain ⟨mA, J, _⟩ := ins_get I1.hok hH
  obtain ⟨od, J, _⟩ := J.look
  obtain ⟨mm, hF⟩ := I1.fr
  refine PySem.W.len_K hF I1.ok.mod.kin J hs hf (thn (run_fnIn (E := WE W) (vs := [.ref y]) Fo hr hb (passAt tk σ) I1 (.cons rfl .nil) hsp) fun u3 s3 z => ?_)
  obtain ⟨v3, H3, I3, r3, i, rfl, h0, h1, q3⟩ := z
  obtain ⟨t3, rfl⟩ := r3
  exact ⟨⟨h0, by omega⟩, .int i, H3, I3.tok _, ⟨_, rfl⟩, q3⟩
end
end Dv

set_option maxRecDepth 100000
set_option maxHeartbeats 4000000
/-! sorted(set(xs)), xs a list of fewer than 64 ints -/
namespace Dv
open PySem PySem.Spec PyProof.Rows L2
/-- a number into an ascending list, once -/
def insS (k : Int) : List Int → List Int
  | [] => [k]
  | a :: r => if k < a then k :: a :: r else if k = a then a :: r else a :: insS k r
def sset : List Int → List Int
  | [] => []
  | a :: r => insS a (sset r)
theorem insS_mem {k x : Int} : ∀ {l : List Int}, x ∈ insS k l ↔ x = k ∨ x ∈ l
  | [] => by simp [insS]
  | a :: r => by
    unfold insS
    by_cases h1 : k < a
    · rw [if_pos h1]
      simp
    · rw [if_neg h1]
      by_cases h2 : k = a
      · rw [if_pos h2]
        subst h2
        simp
      · rw [if_neg h2, List.mem_cons, insS_mem (l := r), List.mem_cons]
        constructor
        · rintro (h | h | h)
          · exact .inr (.inl h)
          · exact .inl h
          · exact .inr (.inr h)
        · rintro (h | h | h)
          · exact .inr (.inl h)
          · exact .inl h
          · exact .inr (.inr h)
theorem insS_asc {k : Int} : ∀ {l : List Int}, l.Pairwise (· < ·) → (insS k l).Pairwise (· < ·)
  | [], _ => List.pairwise_singleton _ _
  | a :: r, h => by
    obtain ⟨h1, h2⟩ := List.pairwise_cons.mp h
    unfold insS
    by_cases z1 : k < a
    · rw [if_pos z1]
      refine List.pairwise_cons.mpr ⟨fun x hx => ?_, h⟩
      rcases List.mem_cons.mp hx with e | e
      · omega
      · have := h1 x e
        omega
    · rw [if_neg z1]
      by_cases z2 : k = a
      · rw [if_pos z2]
        exact h
      · rw [if_neg z2]
        refine List.pairwise_cons.mpr ⟨fun x hx => ?_, insS_asc h2⟩
        rcases insS_mem.mp hx with e | e
        · omega
        · exact h1 x e
theorem sset_mem {x : Int} : ∀ {l : List Int}, x ∈ sset l ↔ x ∈ l
  | [] => Iff.rfl
  | a :: r => by
    unfold sset
    rw [insS_mem, sset_mem (l := r), List.mem_cons]
theorem sset_asc : ∀ l : List Int, (sset l).Pairwise (· < ·)
  | [] => .nil
  | a :: r => insS_asc (sset_asc r)
/-- two ascending lists of the same numbers are one -/
theorem asc_one : ∀ {l m : List Int}, l.Pairwise (· < ·) → m.Pairwise (· < ·) → (∀ x, x ∈ l ↔ x ∈ m) → l = m
  | [], [], _, _, _ => rfl
  | [], b :: m, _, _, h => absurd ((h b).mpr List.mem_cons_self) (by simp)
  | a :: l, [], _, _, h => absurd ((h a).mp List.mem_cons_self) (by simp)
  | a :: l, b :: m, h1, h2, h => by
    obtain ⟨p1, p2⟩ := List.pairwise_cons.mp h1
    obtain ⟨q1, q2⟩ := List.pairwise_cons.mp h2
    have e : a = b := by
      rcases List.mem_cons.mp ((h a).mp List.mem_cons_self) with z | z
      · exact z
      · rcases List.mem_cons.mp ((h b).mpr List.mem_cons_self) with y | y
        · exact y.symm
        · have := q1 a z
          have := p1 b y
          omega
    subst e
    rw [asc_one p2 q2 fun x => ?_]
    constructor
    · intro hx
      rcases List.mem_cons.mp ((h x).mp (List.mem_cons_of_mem _ hx)) with z | z
      · have := p1 x hx
        omega
      · exact z
    · intro hx
      rcases List.mem_cons.mp ((h x).mpr (List.mem_cons_of_mem _ hx)) with z | z
      · have := q1 x hx
        omega
      · exact z

section
variable {P : Program} {w : World} {A : Around} {E : Value → Shared → Prop} {s : Shared}
/-- the new set -/
abbrev nuS (w : World) : Obj := { cls := .type "set", dict := none, data := .set #[] 0 (.fresh 0 0 (!w.params.followText "set-order")) }
abbrev nuH (w : World) (h : Heap) : Heap := h.push (nuS w)
/-- what the call leaves -/
def LeftS (w : World) (s : Shared) (ns : List Int) (h' : Heap) (c : Nat) : Prop := SetR w h' s.heap.objs.size (fun j => decide (j ∈ ns)) c ∧ c ≤ ns.length ∧ ∀ b o, s.heap.get? b = some o → h'.get? b = some o
set_option maxRecDepth 100000 in
set_option maxHeartbeats 3200000 in
theorem call_setL {l : Addr} {its : Array Value} (ns : List Int) {Q : Value → Shared → Prop} (hh : A.handled = none) (hl : s.heap.IsList l its) (hi : IntsAre its.toList ns) (hb : ns.length + 1 < scanBound)
    (fin : ∀ (h' : Heap) (tk c : Nat), LeftS w s ns h' c → Q (.ref s.heap.objs.size) { s with heap := h', toks := tk }) : wpAny (model P w) A (call (.type "set") [.ref l]) Q E s := by
  have sz : its.size = ns.length := by
    have z := IntsAre.length hi
    rwa [Array.length_toList] at z
  obtain ⟨mc, mt, hmro⟩ := F.called_set.mro
  have hmk := F.called_set.made
  have hsb := F.called_set.sub
  refine wpAny_call (codeAny_of_tree (show wpAny _ _ (callAny (.type "set") _) _ _ _ from wpAny_pure ⟨Code.quiet_builtin _ (by decide +kernel), codeAny_builtin F.entry_type_call ?_⟩))
  rw [Around.under_plain (weight_type_call_type "set" [.ref l] []) rfl]
  have n1 := F.called_set.notType
  have n2 := F.called_set.canCreate
  have n3 := F.typeCall_set_1 (.ref l)
  repeat (any_goals (first | assumption | wp_step))
  refine codeAny_mono (code_set_led1 (.ref l) (E := E) (Q₁ := fun u t => u = .ref s.heap.objs.size ∧ t = { s with heap := nuH w s.heap }) ⟨rfl, rfl⟩) fun r t hr => ?_
  cases r with
  | error e => exact hr
  | ok fl => cases fl with
    | ret u =>
      obtain ⟨rfl, rfl⟩ := hr
      have gS : (nuH w s.heap).get? s.heap.objs.size = some (nuS w) := Heap.get?_push_size _ rfl
      have tS : Shared.TypeIs { s with heap := nuH w s.heap } (.ref s.heap.objs.size) "set" := ⟨_, gS, rfl⟩
      have i1 := F.called_set.init.lookup
      have i2 := F.called_set.init.bind (.ref s.heap.objs.size)
      repeat (any_goals (first | assumption | wp_step))
      refine codeAny_mono (codeAny_call_builtin (R := wants (fun r t => r = .none ∧ ∃ h' tk c, t = { s with heap := h', toks := tk } ∧ LeftS w s ns h' c) E) F.called_set.init.plain F.entry_set_init (check_set_init_1 tS ?_)) fun r t hr => ?_
      · obtain ⟨⟨oc, od, oo, osl⟩, ho, hc, nl, hd⟩ := hl
        simp only at hc hd
        subst hc
        subst hd
        have ho' : (nuH w s.heap).get? l = some { cls := .type "list", dict := od, data := .seq its nl, slots := osl } := Heap.get?_push_of_some _ ho
        have c1 := F.sub_list_set
        have c2 := F.sub_list_frozenset
        have c3 : (Value.type "list" == Value.type "dict") = false := by decide
        have L1 : (nuH w s.heap).IsList l its := ⟨_, ho', rfl, nl, rfl⟩
        unfold Builtin.«set.__init__» noKeywords Builtin.Frozenset.updateFrom
        generalize hPI : pyIter = PI
        wp_walk
        subst hPI
        refine wpAny_pyIter_list L1 (wpAny_bind (wpAny_runValue ?_))
        have lt : l < s.heap.objs.size := Heap.lt_size ho
        have h3 : A.in1.in1.in1.handled = none := by simp [hh]
        have e1 : (nuH w s.heap).objs.size = s.heap.objs.size + 1 := Heap.size_push ..
        have ne : l ≠ (nuH w s.heap).objs.size := by
          rw [e1]
          exact Nat.ne_of_lt (Nat.lt_succ_of_lt lt)
        have nf : s.heap.objs.size ∉ [(nuH w s.heap).objs.size, l] := by
          rw [e1]
          intro hm
          rcases List.mem_cons.mp hm with z | z
          · exact absurd z (Nat.ne_of_lt (Nat.lt_succ_self _))
          · exact absurd (List.mem_singleton.mp z) (Nat.ne_of_gt lt)
        have hv : ∀ (i : Nat) (v : Value), its[i]? = some v → ∃ k t, ns[i]? = some k ∧ v = .int k t := fun i v hv => by
          have hlt : i < ns.length := by
            rw [← sz]
            exact (Array.getElem?_eq_some_iff.mp hv).1
          obtain ⟨t, e⟩ := PyProof.Rows.IntsAre.int_at hi i v (by rw [Array.getElem?_toList]; exact hv)
          refine ⟨ns[i], t, List.getElem?_eq_getElem hlt, ?_⟩
          rw [e, List.getD_eq_getElem?_getD, List.getElem?_eq_getElem hlt] <;> rfl
        refine set_update_ints ((Walks.list h3 _ l ne its).toS) s.heap.objs.size nf ns sz hb hv (its.size - 0) 0 _ (by omega) (Nat.zero_le _) ⟨⟨_, Heap.get?_push_size _ rfl, rfl, rfl⟩, L1.push _⟩ ⟨0, Nat.le_refl 0, setR_new_at (Heap.get?_push_of_some _ gS)⟩ fun t c hm hc2 hS2 => ?_
        obtain ⟨h', g2, d2, tk, os2⟩ := t
        obtain rfl : g2 = s.gens := hm.gens
        obtain rfl : d2 = s.drawn := hm.drawn
        obtain rfl : os2 = s.os := hm.os
        rw [sz] at hc2
        refine wpAny_pure (show wpAny _ _ (ret Value.none) _ _ _ from wpAny_pure ⟨rfl, h', tk, c, rfl, hS2, hc2, fun b o e => ?_⟩)
        have bl : b < s.heap.objs.size := Heap.lt_size e
        refine hm.heap b o ?_ (Heap.get?_push_of_some _ (Heap.get?_push_of_some _ e))
        rw [e1]
        intro hm2
        rcases List.mem_cons.mp hm2 with z | z
        · exact absurd z (Nat.ne_of_lt bl)
        · exact absurd (List.mem_singleton.mp z) (Nat.ne_of_lt (Nat.lt_succ_of_lt bl))
      · cases r with
        | error e => exact hr
        | ok fl => cases fl with
          | ret v =>
            obtain ⟨rfl, h', tk, c, rfl, hL⟩ := hr
            repeat (any_goals (first | assumption | wp_step))
            exact fin _ _ _ hL
          | _ => exact hr.elim
    | _ => exact hr.elim
end
def sortSetK (s : S) : Option (List D) → R
  | some xs => match intsD xs with
    | some ns => if ns.length < 64 then .nl ((sset ns).map .int) s else .no
    | none => .no
  | none => .no
def dSortSet (f : DE) : DE := fun s => bindR (f s) fun d s1 => sortSetK s1 (look s1.ce d)
section
variable {X : Cx} {cl : Cl} {e : Ent} {W : WX} {a : Expr} {f : DE} {p p2 q0 pos : Pos}
theorem e_sortset (hc : X.calm = true) (hg : Gl X "sorted") (hz : X.mg "sorted" = none) (hg2 : Gl X "set") (hz2 : X.mg "set" = none) (ha : PEd X cl e W a f)
    (na : starEach [a] X.env = (false, eval a X.env) :: starEach [] X.env := by rfl)
    (nb : starEach [(Expr.Call (.Name "set" p2) [a] [] q0)] X.env = (false, eval (.Call (.Name "set" p2) [a] [] q0) X.env) :: starEach [] X.env := by rfl) :
    PEd X cl e W (.Call (.Name "sorted" p) [.Call (.Name "set" p2) [a] [] q0] [] pos) (dSortSet f) := by
  refine ⟨fun pins s σ H Q I h => ?_⟩
  obtain ⟨F, ca, s0, b0, q⟩ := h
  refine Call_ (ld_blt I hg hz (by decide +kernel : bootBuiltins "sorted" = some (.builtin "sorted")) ?_)
  refine PyProof.Rows.callWith_builtin1 (PyProof.Rows.args_cons ?_ nb) nb rfl
  refine Call_ (ld_blt I hg2 hz2 (by decide +kernel : bootBuiltins "set" = some (.type "set")) ?_)
  refine PyProof.Rows.callWith_type1 (PyProof.Rows.args_cons (thn (ha.run pins s σ H _ I (use_rd b0 q fun v d s1 F1 H1 ca1 b1 i1 x1 p1 q1 => (⟨d, s1, F1, ca1, b1, i1, q1⟩ : ∃ d s1 F1 ca1, Bx X cl e F1 H1 ca1 σ s1 ∧ Is X.K cl F1 ca1 v d ∧ rdK X.K cl e W σ F1 ca1 Q (sortSetK s1 (look s1.ce d))))) fun u s1 ⟨v, H1, I1, r1, d, t1, F1, ca1, b1, i1, q1⟩ => PyProof.Rows.args_nil ?_) na) na rfl
  cases e1 : look t1.ce d with
  | none =>
    rw [e1] at q1
    exact False.elim q1
  | some xs =>
    rw [e1] at q1
    have q2 : rdK X.K cl e W σ F1 ca1 Q (match intsD xs with
      | some ns => if ns.length < 64 then .nl ((sset ns).map .int) t1 else .no
      | none => .no) := q1
    cases e2 : intsD xs with
    | none =>
      rw [e2] at q2
      exact False.elim q2
    | some ns =>
      rw [e2] at q2
      have q3 : rdK X.K cl e W σ F1 ca1 Q (if ns.length < 64 then .nl ((sset ns).map .int) t1 else .no) := q2
      by_cases h64 : ns.length < 64
      · rw [if_pos h64] at q3
        obtain ⟨y, vs, rfl, hq, hi⟩ := look_ok b1 i1 e1
        rw [intsD_eq e2] at hi
        have ev := of_ints hi
        subst ev
        cases r1
        obtain ⟨its, r, pl, hzz⟩ := I1.list hq
        refine call_setL ns (I1.ok.hd hc) pl.isList (by simpa using intsAre_of r) (by unfold scanBound; omega) fun h' tk c hL => PyProof.Rows.args_nil ?_
        obtain ⟨hR, hc2, hk⟩ := hL
        have hn : H1 s1.heap.objs.size = none := I1.hok.fresh (Nat.le_refl _)
        have I2 : Inv X pins σ (upd H1 s1.heap.objs.size (SetO X.w s1.heap.objs.size (fun j => decide (j ∈ ns)) c)) { s1 with heap := h', toks := tk } := I1.laid (t' := tk) (fun b u e => hk b u e) (Nat.le_refl _) (setO_new hR)
        refine cr_sortedSet hc pins _ σ _ [V.ref s1.heap.objs.size] [Value.ref s1.heap.objs.size] Q I2 (.cons rfl .nil) ⟨_, _, c, rfl, upd_same, by omega, fun ms z hs hm hl hz0 => ?_⟩
        have em : ms = sset ns := asc_one hs (sset_asc ns) fun x => by
          rw [hm x, sset_mem, decide_eq_true_iff]
        subst em
        have bb := b1.laid (o := SetO X.w s1.heap.objs.size (fun j => decide (j ∈ ns)) c) hn
        exact q3 (.ref z) F1 _ ca1 (bb.laid hz0) (Ex.refl F1) (Pre.refl ca1) ⟨z, _, rfl, upd_same, isL_ints _, bb.notF hz0, bb.notca hz0, bb.notH0 hz0⟩
      · rw [if_neg h64] at q3
        exact False.elim q3
end
end Dv

set_option maxRecDepth 100000
set_option maxHeartbeats 4000000
/-! reckoning with the data terms: comprehensions and loops over known items -/
namespace Dv
open PySem PySem.Spec PyProof.Rows L2

/-- a comprehension whose turns leave the cells as they are -/
theorem compL_pure {gd : S → Bool} {t : DT} {vs : List Nat} {c : DB} {f : DE} {s : S} (p : D → Bool) (g : D → D) (hg : gd s = true) :
    ∀ (xs acc : List D), (∀ d ∈ xs, ∃ s1, t d (inS vs s) = some s1 ∧ ∃ s2, c s1 = .ok (p d) s2 ∧ s2.ce = s.ce ∧ (p d = true → ∃ s3, f s2 = .ok (g d) s3 ∧ s3.ce = s.ce)) → acc.length + xs.length ≤ 100000 →
      compL gd t vs c f xs acc s = .nl (acc ++ (xs.filter p).map g) s
  | [], acc, _, _ => by
    unfold compL
    rw [if_pos hg]
    simp
  | d :: ds, acc, h, hl => by
    obtain ⟨s1, h1, s2, h2, e2, h3⟩ := h d List.mem_cons_self
    have hl' : acc.length + ds.length + 1 ≤ 100000 := by
      rw [List.length_cons] at hl
      omega
    unfold compL
    rw [if_pos hg, h1]
    show okB (c s1) _ = _
    rw [h2]
    show (if p d = true then _ else _) = _
    cases hp : p d with
    | false =>
      rw [if_neg (by decide)]
      have eo : outS s s2 = s := by
        unfold outS
        rw [e2]
      rw [eo, compL_pure p g hg ds acc (fun x hx => h x (List.mem_cons_of_mem _ hx)) (by omega), List.filter_cons, if_neg (by rw [hp]; decide)]
    | true =>
      rw [if_pos rfl]
      obtain ⟨s3, h4, e3⟩ := h3 hp
      rw [h4]
      show (if acc.length < 100000 then _ else _) = _
      rw [if_pos (by omega)]
      have eo : outS s s3 = s := by
        unfold outS
        rw [e3]
      rw [eo, compL_pure p g hg ds (acc ++ [g d]) (fun x hx => h x (List.mem_cons_of_mem _ hx)) (by rw [List.length_append]; simp; omega), List.filter_cons, if_pos hp]
      simp
/-- .. of two clauses -/
theorem innL_pure {t1 : DT} {vs1 : List Nat} {c1 : DB} {f : DE} {k : List D → S → R} {s : S} (g : D → D) :
    ∀ (ys acc : List D), (∀ d ∈ ys, ∃ s1, t1 d (inS vs1 s) = some s1 ∧ ∃ s2, c1 s1 = .ok true s2 ∧ s2.ce = s.ce ∧ ∃ s3, f s2 = .ok (g d) s3 ∧ s3.ce = s.ce) → acc.length + ys.length ≤ 100000 →
      innL t1 vs1 c1 f k ys acc s = k (acc ++ ys.map g) s
  | [], acc, _, _ => by
    unfold innL
    simp
  | d :: ds, acc, h, hl => by
    obtain ⟨s1, h1, s2, h2, e2, s3, h4, e3⟩ := h d List.mem_cons_self
    have hl' : acc.length + ds.length + 1 ≤ 100000 := by
      rw [List.length_cons] at hl
      omega
    unfold innL
    rw [h1]
    show okB (c1 s1) _ = _
    rw [h2]
    show okR (f s2) _ = _
    rw [h4]
    show (if acc.length < 100000 then _ else _) = _
    rw [if_pos (by omega)]
    have eo : outS s s3 = s := by
      unfold outS
      rw [e3]
    rw [eo, innL_pure g ds (acc ++ [g d]) (fun x hx => h x (List.mem_cons_of_mem _ hx)) (by rw [List.length_append]; simp; omega)]
    simp
theorem compL2_pure {t t1 : DT} {vs vs1 : List Nat} {c c1 : DB} {it1 : DI} {f : DE} {s : S} (g : D → D → D) (ys : List D) :
    ∀ (xs acc : List D), (∀ d ∈ xs, ∃ s1, t d (inS vs s) = some s1 ∧ ∃ s2, c s1 = .ok true s2 ∧ s2.ce = s.ce ∧ ∃ s3, it1 s2 = .ok ys s3 ∧ s3.ce = s.ce ∧
        ∀ y ∈ ys, ∃ s4, t1 y (inS vs1 s3) = some s4 ∧ ∃ s5, c1 s4 = .ok true s5 ∧ s5.ce = s3.ce ∧ ∃ s6, f s5 = .ok (g d y) s6 ∧ s6.ce = s3.ce) → acc.length + xs.length * ys.length ≤ 100000 →
      compL2 t vs c it1 t1 vs1 c1 f xs acc s = .nl (acc ++ (xs.map fun d => ys.map (g d)).flatten) s
  | [], acc, _, _ => by
    unfold compL2
    simp
  | d :: ds, acc, h, hl => by
    obtain ⟨s1, h1, s2, h2, e2, s3, h4, e3, h5⟩ := h d List.mem_cons_self
    rw [List.length_cons, Nat.add_mul, Nat.one_mul] at hl
    unfold compL2
    rw [h1]
    show okB (c s1) _ = _
    rw [h2]
    show okI (it1 s2) _ = _
    rw [h4]
    show innL t1 vs1 c1 f _ ys acc s3 = _
    rw [innL_pure (g d) ys acc h5 (by omega)]
    have eo : outS s s3 = s := by
      unfold outS
      rw [e3]
    rw [eo, compL2_pure g ys ds (acc ++ ys.map (g d)) (fun x hx => h x (List.mem_cons_of_mem _ hx)) (by rw [List.length_append, List.length_map]; omega)]
    simp
/-- a loop by what each turn does to the state -/
theorem loop_run {t : DT} {body : DS} (st : Nat → S) :
    ∀ (xs : List D) (i : Nat), (∀ j d, xs[j]? = some d → ∃ s1, t d (st (i + j)) = some s1 ∧ (body s1 = .nx (st (i + j + 1)) ∨ body s1 = .ct (st (i + j + 1)))) → loop t body xs (st i) = .nx (st (i + xs.length))
  | [], i, _ => rfl
  | d :: ds, i, h => by
    obtain ⟨s1, h1, h2⟩ := h 0 d rfl
    have h1' : t d (st i) = some s1 := h1
    unfold loop
    rw [h1']
    show loopK (body s1) _ = _
    have ih := loop_run (t := t) (body := body) st ds (i + 1) fun j x hx => by
      obtain ⟨s2, a1, a2⟩ := h (j + 1) x hx
      have e1 : i + (j + 1) = i + 1 + j := by omega
      rw [e1] at a1 a2
      exact ⟨s2, a1, a2⟩
    have e2 : i + 1 + ds.length = i + (d :: ds).length := by
      rw [List.length_cons]
      omega
    rw [e2] at ih
    rcases h2 with h2 | h2
    · rw [h2]
      exact ih
    · rw [h2]
      exact ih
end Dv
/-! ### one step each -/
namespace Dv
open PySem PySem.Spec PyProof.Rows L2
section
variable {f g h : DE} {s s1 s2 s3 : S} {a b c d : D} {xs : List D} {b1' : Bool} {p : List Cell → D → Po} {p2 : List Cell → D → D → Po} {tb tc : DB} {m : Fn} {fs : List (Str × D)} {k i j l : Nat} {ga : DA} {ds : List D} {x : Xc} {sa sb : DS} {o : O}
theorem r_var (e : s.sl[i]? = some (some d)) : dVar i s = .ok d s := by
  unfold dVar
  rw [e]
theorem r_fz_nl (e : f s = .nl xs s1) : dFz f s = .ok (.lst xs) s1 := by
  unfold dFz
  rw [e] <;> rfl
theorem r_fz_ni (e : f s = .ni k fs s1) : dFz f s = .ok (.obj k fs) s1 := by
  unfold dFz
  rw [e] <;> rfl
theorem r_fz_ok (e : f s = .ok d s1) : dFz f s = .ok d s1 := by
  unfold dFz
  rw [e] <;> rfl
theorem r_ce_nl (e : f s = .nl xs s1) : dCe f s = .ok (.rf s1.ce.length) ⟨s1.sl, s1.ce ++ [.lst xs], s1.n0⟩ := by
  unfold dCe
  rw [e] <;> rfl
theorem r_ce_ni (e : f s = .ni k fs s1) : dCe f s = .ok (.rf s1.ce.length) ⟨s1.sl, s1.ce ++ [.ins k fs], s1.n0⟩ := by
  unfold dCe
  rw [e] <;> rfl
theorem r_op (e1 : f s = .ok a s1) (e2 : g s1 = .ok b s2) : dOp p2 f g s = poK s2 (p2 s2.ce a b) := by
  unfold dOp
  rw [e1]
  show bindR (g s1) _ = _
  rw [e2] <;> rfl
theorem r_un (e1 : f s = .ok a s1) : dUn p f s = poK s1 (p s1.ce a) := by
  unfold dUn
  rw [e1] <;> rfl
theorem r_anil : aNil s = .ok [] s := rfl
theorem r_acons (e1 : f s = .ok a s1) (e2 : ga s1 = .ok ds s2) : aCons f ga s = .ok (a :: ds) s2 := by
  unfold aCons
  rw [e1]
  show bindA (ga s1) _ = _
  rw [e2] <;> rfl
theorem r_a1 (e1 : f s = .ok a s1) : aCons f aNil s = .ok [a] s1 := r_acons e1 rfl
theorem r_a2 (e1 : f s = .ok a s1) (e2 : g s1 = .ok b s2) : aCons f (aCons g aNil) s = .ok [a, b] s2 := r_acons e1 (r_a1 e2)
theorem r_a3 (e1 : f s = .ok a s1) (e2 : g s1 = .ok b s2) (e3 : h s2 = .ok c s3) : aCons f (aCons g (aCons h aNil)) s = .ok [a, b, c] s3 := r_acons e1 (r_a2 e2 e3)
theorem r_bi {pb : List Cell → List D → Po} (e : ga s = .ok ds s1) : dBi pb ga s = poK s1 (pb s1.ce ds) := by
  unfold dBi
  rw [e] <;> rfl
theorem r_lst (e : ga s = .ok ds s1) (hl : ds.length ≤ 100000) : dLst ga s = .nl ds s1 := by
  unfold dLst
  rw [e]
  show (if ds.length ≤ 100000 then R.nl ds s1 else .no) = _
  rw [if_pos hl]
theorem r_tup (e : ga s = .ok ds s1) (hl : ds.length ≤ 100000) : dTup ga s = .ok (.tup ds) s1 := by
  unfold dTup
  rw [e]
  show (if ds.length ≤ 100000 then R.ok (.tup ds) s1 else .no) = _
  rw [if_pos hl]
theorem r_call (e : ga s = .ok ds s1) (hl : ds.length = k) : dCall k m ga s = frK s1 (m ds s1.ce) := by
  unfold dCall
  rw [e]
  show (if ds.length = k then frK s1 (m ds s1.ce) else .no) = _
  rw [if_pos hl]
theorem r_make {mk : MkFn} (e : ga s = .ok ds s1) (hl : ds.length + 1 = k) (em : mk ds s1.ce = .ok fs) : dMake i k mk ga s = .ni i fs s1 := by
  unfold dMake
  rw [e]
  show (if ds.length + 1 = k then fiK i s1 (mk ds s1.ce) else .no) = _
  rw [if_pos hl, em] <;> rfl
theorem r_slice {lo hi : DP} {u v : Option Int} (e1 : f s = .ok a s) (e2 : lo s = .ok u s) (e3 : hi s = .ok v s) (e4 : look s.ce a = some xs) : dSlice f lo hi s = .nl (cutD xs u v) s := by
  unfold dSlice
  rw [e1]
  show bindPR (lo s) _ = _
  rw [e2]
  show bindPR (hi s) _ = _
  rw [e3]
  show cutK s u v (look s.ce a) = _
  rw [e4] <;> rfl
theorem r_pt (e : f s = .ok (.int k') s) : ptSome f s = .ok (some k') s := by
  unfold ptSome
  rw [e] <;> rfl
theorem r_test (e : f s = .ok (.bl b1') s1) : bTest f s = .ok b1' s1 := by
  unfold bTest
  rw [e] <;> rfl
theorem r_bnot (e : tb s = .ok b1' s1) : bNot tb s = .ok (!b1') s1 := by
  unfold bNot
  rw [e] <;> rfl
theorem r_band_t (e : tb s = .ok true s1) : bAnd tb tc s = tc s1 := by
  unfold bAnd
  rw [e] <;> rfl
theorem r_band_f (e : tb s = .ok false s1) : bAnd tb tc s = .ok false s1 := by
  unfold bAnd
  rw [e] <;> rfl
theorem r_bor_t (e : tb s = .ok true s1) : bOr tb tc s = .ok true s1 := by
  unfold bOr
  rw [e] <;> rfl
theorem r_bor_f (e : tb s = .ok false s1) : bOr tb tc s = tc s1 := by
  unfold bOr
  rw [e] <;> rfl
theorem r_and_t (e : f s = .ok (.bl true) s1) : dAnd f g s = g s1 := by
  unfold dAnd
  rw [e] <;> rfl
theorem r_and_f (e : f s = .ok (.bl false) s1) : dAnd f g s = .ok (.bl false) s1 := by
  unfold dAnd
  rw [e] <;> rfl
theorem r_or_t (e : f s = .ok (.bl true) s1) : dOr f g s = .ok (.bl true) s1 := by
  unfold dOr
  rw [e] <;> rfl
theorem r_or_f (e : f s = .ok (.bl false) s1) : dOr f g s = g s1 := by
  unfold dOr
  rw [e] <;> rfl
theorem r_not (e : f s = .ok (.bl b1') s1) : dNot f s = .ok (.bl (!b1')) s1 := by
  unfold dNot
  rw [e] <;> rfl
theorem r_if_t (e : tb s = .ok true s1) : dIf tb f g s = f s1 := by
  unfold dIf
  rw [e] <;> rfl
theorem r_if_f (e : tb s = .ok false s1) : dIf tb f g s = g s1 := by
  unfold dIf
  rw [e] <;> rfl
/-! statements -/
theorem r_set (e : f s = .ok d s1) : sSet i f s = .nx ⟨s1.sl.set i (some d), s1.ce, s1.n0⟩ := by
  unfold sSet
  rw [e] <;> rfl
theorem r_seq (e : sa s = .nx s1) : sSeq sa sb s = sb s1 := by
  unfold sSeq
  rw [e] <;> rfl
theorem r_seq_rt (e : sa s = .rt d s1) : sSeq sa sb s = .rt d s1 := by
  unfold sSeq
  rw [e] <;> rfl
theorem r_sif_t (e : tb s = .ok true s1) : sIf tb sa sb s = sa s1 := by
  unfold sIf
  rw [e] <;> rfl
theorem r_sif_f (e : tb s = .ok false s1) : sIf tb sa sb s = sb s1 := by
  unfold sIf
  rw [e] <;> rfl
theorem r_ret (e : f s = .ok d s1) : sRet f s = .rt d s1 := by
  unfold sRet
  rw [e] <;> rfl
theorem r_ret_nl (e : f s = .nl xs s1) : sRet f s = .rl xs s1 := by
  unfold sRet
  rw [e] <;> rfl
theorem r_ret_ni (e : f s = .ni k fs s1) : sRet f s = .ri k fs s1 := by
  unfold sRet
  rw [e] <;> rfl
theorem r_drop (e : f s = .ok d s1) : sDrop f s = .nx s1 := by
  unfold sDrop
  rw [e] <;> rfl
theorem r_par2 (e : ga s = .ok [a, b] s1) : sPar2 i j ga s = .nx ⟨(s1.sl.set i (some a)).set j (some b), s1.ce, s1.n0⟩ := by
  unfold sPar2
  rw [e] <;> rfl
theorem r_par3 (e : ga s = .ok [a, b, c] s1) : sPar3 i j l ga s = .nx ⟨((s1.sl.set i (some a)).set j (some b)).set l (some c), s1.ce, s1.n0⟩ := by
  unfold sPar3
  rw [e] <;> rfl
theorem r_for {it : DI} {t : DT} (e : it s = .ok xs s1) : sFor it t sa s = loop t sa xs s1 := by
  unfold sFor
  rw [e] <;> rfl
theorem r_comp {it : DI} {t : DT} {vs : List Nat} (e : it s = .ok xs s1) : dComp it t vs tb f s = compL gYes t vs tb f xs [] s1 := by
  unfold dComp
  rw [e] <;> rfl
theorem r_comp2 {it it1 : DI} {t t1 : DT} {vs vs1 : List Nat} (e : it s = .ok xs s1) : dComp2 it t vs tb it1 t1 vs1 tc f s = compL2 t vs tb it1 t1 vs1 tc f xs [] s1 := by
  unfold dComp2
  rw [e] <;> rfl
theorem r_iL (e : f s = .ok (.lst xs) s1) : iL f s = .ok xs s1 := by
  unfold iL
  rw [e] <;> rfl
theorem r_iL_nl (e : f s = .nl xs s1) : iL f s = .ok xs s1 := by
  unfold iL
  rw [e] <;> rfl
theorem r_iA {kk : List D → Option (List D)} (e : ga s = .ok ds s1) (ek : kk ds = some xs) : iA kk ga s = .ok xs s1 := by
  unfold iA
  rw [e]
  show opI s1 (kk ds) = _
  rw [ek] <;> rfl
end
end Dv
/-! ### turns that leave the state as it is -/
namespace Dv
open PySem PySem.Spec PyProof.Rows L2
theorem compL_pu {gd : S → Bool} {t : DT} {vs : List Nat} {c : DB} {f : DE} {s : S} {xs : List D} (p : D → Bool) (g : D → D) (hg : gd s = true) (h : ∀ d ∈ xs, ∃ s1, t d (inS vs s) = some s1 ∧ s1.ce = s.ce ∧ c s1 = .ok (p d) s1 ∧ (p d = true → f s1 = .ok (g d) s1)) (hl : xs.length ≤ 100000) :
    compL gd t vs c f xs [] s = .nl ((xs.filter p).map g) s := by
  rw [compL_pure p g hg xs [] (fun d hd => by
    obtain ⟨s1, h1, h2, h3, h4⟩ := h d hd
    exact ⟨s1, h1, s1, h3, h2, fun hp => ⟨s1, h4 hp, h2⟩⟩) (by simpa using hl), List.nil_append]
/-- all items, no test -/
theorem compL_all {gd : S → Bool} {t : DT} {vs : List Nat} {f : DE} {s : S} {xs : List D} (g : D → D) (hg : gd s = true) (h : ∀ d ∈ xs, ∃ s1, t d (inS vs s) = some s1 ∧ s1.ce = s.ce ∧ f s1 = .ok (g d) s1) (hl : xs.length ≤ 100000) :
    compL gd t vs bYes f xs [] s = .nl (xs.map g) s := by
  rw [compL_pu (fun _ => true) g hg (fun d hd => by
    obtain ⟨s1, h1, h2, h3⟩ := h d hd
    exact ⟨s1, h1, h2, rfl, fun _ => h3⟩) hl, List.filter_eq_self.mpr fun _ _ => rfl]
theorem compL2_pu {t t1 : DT} {vs vs1 : List Nat} {it1 : DI} {f : DE} {s : S} {xs : List D} (g : D → D → D) (ys : List D) (h : ∀ d ∈ xs, ∃ s1, t d (inS vs s) = some s1 ∧ s1.ce = s.ce ∧ it1 s1 = .ok ys s1 ∧
      ∀ y ∈ ys, ∃ s4, t1 y (inS vs1 s1) = some s4 ∧ s4.ce = s1.ce ∧ f s4 = .ok (g d y) s4) (hl : xs.length * ys.length ≤ 100000) :
    compL2 t vs bYes it1 t1 vs1 bYes f xs [] s = .nl (xs.map fun d => ys.map (g d)).flatten s := by
  rw [compL2_pure g ys xs [] (fun d hd => by
    obtain ⟨s1, h1, h2, h3, h4⟩ := h d hd
    refine ⟨s1, h1, s1, rfl, h2, s1, h3, h2, fun y hy => ?_⟩
    obtain ⟨s4, a1, a2, a3⟩ := h4 y hy
    exact ⟨s4, a1, s4, rfl, a2, s4, a3, a2⟩) (by simpa using hl), List.nil_append]
end Dv
/-! calls that leave the cells as they are -/
namespace Dv
open PySem PySem.Spec PyProof.Rows L2
section
variable {f g : DE} {s s1 s2 : S} {a b d : D} {xs ds : List D} {m : Fn} {k : Nat} {ga : DA}
theorem r_cok (e : ga s = .ok ds s1) (hm : m ds s1.ce = .ok d s1.ce) (hl : ds.length = k) : dCall k m ga s = .ok d s1 := by
  rw [r_call e hl, hm] <;> rfl
theorem r_cnl (e : ga s = .ok ds s1) (hm : m ds s1.ce = .nl xs s1.ce) (hl : ds.length = k) : dCall k m ga s = .nl xs s1 := by
  rw [r_call e hl, hm] <;> rfl
end
end Dv

set_option maxRecDepth 100000
set_option maxHeartbeats 4000000
/-! list(zip(a, b)) -/
namespace Dv
open PySem PySem.Spec PyProof.Rows L2
section
variable {prog : Program} {w : World} {A : Around}
/-- a zip between two of its items -/
structure ZSt (h : Heap) (z TI TO i1 i2 l1 l2 : Addr) (k : Nat) (S : Addr) : Prop where
  pr : IsPair h TI (.ref i1) (.ref i2)
  a : h.IsListIter i1 l1 k
  b : h.IsListIter i2 l2 k
  ph : (IsZip h z TI TO .none ∧ ∃ x y, IsPair h TO x y) ∨ ∃ T f o, IsZipHeld h z TI TO T f ∧ h.get? T = some o ∧ S < T
theorem ZSt.keep {h h' : Heap} {z TI TO i1 i2 l1 l2 S : Addr} {k : Nat} (q : ZSt h z TI TO i1 i2 l1 l2 k S) (up : ∀ c o, c ≠ S → h.get? c = some o → h'.get? c = some o) (ap : ∀ c ∈ [z, TI, TO, i1, i2], c < S) : ZSt h' z TI TO i1 i2 l1 l2 k S := by
  have nz := Nat.ne_of_lt (ap z (by simp))
  refine ⟨up _ _ (Nat.ne_of_lt (ap TI (by simp))) q.pr, q.a.at fun o e => up _ o (Nat.ne_of_lt (ap i1 (by simp))) e, q.b.at fun o e => up _ o (Nat.ne_of_lt (ap i2 (by simp))) e, ?_⟩
  rcases q.ph with ⟨p, x, y, r⟩ | ⟨T, f, o, p, r, lt⟩
  · exact .inl ⟨up _ _ nz p, x, y, up _ _ (Nat.ne_of_lt (ap TO (by simp))) r⟩
  · exact .inr ⟨T, f, o, up _ _ nz p, up _ _ (Nat.ne_of_gt lt) r, lt⟩
variable {E : Value → Shared → Prop} {s : Shared} {z TI TO i1 i2 l1 l2 S : Addr} {k : Nat} {va vb : Array Value}
theorem z_next {x y : Value} {Q : Option Value → Shared → Prop} (D : ZipApart z TI TO i1 i2 l1 l2) (q : ZSt s.heap z TI TO i1 i2 l1 l2 k S) (ap : ∀ c ∈ [z, TI, TO, i1, i2], c < S) (hS : S < s.heap.objs.size)
    (ha : s.heap.IsList l1 va) (hb : s.heap.IsList l2 vb) (hx : va[k]? = some x) (hy : vb[k]? = some y)
    (go : ∀ h', ZSt h' z TI TO i1 i2 l1 l2 (k + 1) S → IsPair h' s.heap.objs.size x y → (∀ c o, c ≠ z → c ≠ TO → c ≠ i1 → c ≠ i2 → s.heap.get? c = some o → h'.get? c = some o) → Q (some (.ref s.heap.objs.size)) { s with heap := h' }) :
    wpAny (model prog w) A (pyNext (.ref z)) Q E s := by
  obtain ⟨pr, qa, qb, ph⟩ := q
  rcases ph with ⟨p, x0, y0, r⟩ | ⟨T, f, o, p, r, lt⟩
  · exact wpAny_pyNext_zip_item D p pr r qa qb ha hb hx hy fun h' p' _ qa' qb' t' _ kp =>
      go h' ⟨kp _ _ D.TIz D.TITO D.TIi1 D.TIi2 pr, qa', qb', .inr ⟨_, false, _, p', t', hS⟩⟩ t' kp
  · have far : ∀ c ∈ [z, TI, TO, i1, i2], T ≠ c := fun c hc => Nat.ne_of_gt (Nat.lt_trans (ap c hc) lt)
    exact wpAny_pyNext_zip_item_held D p r pr qa qb ha hb hx hy fun h' p' qa' qb' t' _ kp =>
      go h' ⟨kp _ _ D.TIz D.TIi1 D.TIi2 pr, qa', qb', .inr ⟨T, true, o, p', kp _ _ (far z (by simp)) (far i1 (by simp)) (far i2 (by simp)) r, lt⟩⟩ t' fun c o c1 _ c3 c4 e => kp c o c1 c3 c4 e
theorem z_end {Q : Option Value → Shared → Prop} (hh : A.handled = none) (D : ZipApart z TI TO i1 i2 l1 l2) (q : ZSt s.heap z TI TO i1 i2 l1 l2 k S)
    (ha : s.heap.IsList l1 va) (hb : s.heap.IsList l2 vb) (he : va[k]? = none ∨ vb[k]? = none)
    (go : ∀ h', (∀ c o, c ≠ z → c ≠ TO → c ≠ i1 → c ≠ i2 → s.heap.get? c = some o → h'.get? c = some o) → Q none { s with heap := h' }) :
    wpAny (model prog w) A (pyNext (.ref z)) Q E s := by
  obtain ⟨pr, qa, qb, ph⟩ := q
  rcases ph with ⟨p, x0, y0, r⟩ | ⟨T, f, o, p, r, lt⟩
  · exact wpAny_pyNext_zip_end hh D p pr r qa qb ha hb he go
  · exact wpAny_pyNext_zip_end_held hh D p r pr qa qb ha hb he fun h' kp => go h' fun c o c1 _ c3 c4 e => kp c o c1 c3 c4 e
/-- the tuples that a zip has given: rising, behind the list, each with its two items -/
structure ZTs (va vb : Array Value) (S : Addr) (h : Heap) (ts : List Addr) : Prop where
  up : ts.Pairwise (· < ·)
  far : ∀ t ∈ ts, S < t
  two : ∀ (j : Nat) (t : Addr), ts[j]? = some t → ∃ x y, va[j]? = some x ∧ vb[j]? = some y ∧ IsPair h t x y
theorem ZTs.there {h : Heap} {ts : List Addr} (g : ZTs va vb S h ts) {t : Addr} (ht : t ∈ ts) : t < h.objs.size := by
  obtain ⟨j, hj⟩ := List.mem_iff_getElem?.mp ht
  obtain ⟨_, _, _, _, e⟩ := g.two j t hj
  exact Heap.lt_size e
theorem zl_loop {R : Result → Shared → Prop} {n : Nat} (hh : A.handled = none) (D : ZipApart z TI TO i1 i2 l1 l2) (ap : ∀ c ∈ [z, TI, TO, i1, i2], c < S) (n1 : l1 ∉ [S, z, TO, i1, i2]) (n2 : l2 ∉ [S, z, TO, i1, i2]) (hn : n ≤ sizeLine) (g1 : n ≤ va.size) (g2 : n ≤ vb.size)
    (he : va[n]? = none ∨ vb[n]? = none) (res : Value) {h0 : Heap}
    (hR : ∀ h' tk acc c ts, (∀ b o, b ∉ [S, z, TO, i1, i2] → h0.get? b = some o → h'.get? b = some o) → h'.get? S = some { cls := .type "list", dict := none, data := .seq acc c, slots := #[] } → ts.length = n → ZTs va vb S h' ts →
      acc.toList = ts.map Value.ref → R (.ok (.ret res)) { s with heap := h', toks := tk }) :
    ∀ (m i : Nat) (h : Heap) (tk c : Nat) (acc : Array Value) (ts : List Addr), n - i = m → i ≤ n → ZSt h z TI TO i1 i2 l1 l2 i S → h.IsList l1 va → h.IsList l2 vb → (∀ b o, b ∉ [S, z, TO, i1, i2] → h0.get? b = some o → h.get? b = some o) →
      h.get? S = some { cls := .type "list", dict := none, data := .seq acc c, slots := #[] } → acc.toList = ts.map Value.ref → ts.length = i → ZTs va vb S h ts →
      codeAny (model prog w) A (.builtin "list.extend.loop" ⟨[.ref S, .ref z, res], []⟩) R { s with heap := h, toks := tk } := by
  have nS : ∀ c ∈ [z, TI, TO, i1, i2], S ≠ c := fun c hc => Nat.ne_of_gt (ap c hc)
  intro m
  induction m with
  | zero =>
    intro i h tk c acc ts hm hi q ha hb kp hS hacc hl g
    have ei : i = n := by omega
    subst ei
    refine codeAny_builtin PySem.F.entry_extend_loop ?_
    rw [Around.under_plainId PySem.F.plain_extend_loop _]
    show wpAny _ A.in1 (pyNext (.ref z) >>= _) _ _ _
    refine wpAny_bind (z_end (s := { s with heap := h, toks := tk }) (A := A.in1) hh D q ha hb he fun h' kq => ?_)
    refine wpAny_pure (hR h' tk acc c ts (fun b o hb e => kq b o (fun u => hb (by simp [u])) (fun u => hb (by simp [u])) (fun u => hb (by simp [u])) (fun u => hb (by simp [u])) (kp b o hb e))
      (kq S _ (nS z (by simp)) (nS TO (by simp)) (nS i1 (by simp)) (nS i2 (by simp)) hS) hl ⟨g.up, g.far, fun j t hj => ?_⟩ hacc)
    obtain ⟨x, y, e1, e2, e3⟩ := g.two j t hj
    have ft := g.far t (List.mem_of_getElem? hj)
    have nt : ∀ c ∈ [z, TI, TO, i1, i2], t ≠ c := fun c hc => Nat.ne_of_gt (Nat.lt_trans (ap c hc) ft)
    exact ⟨x, y, e1, e2, kq t _ (nt z (by simp)) (nt TO (by simp)) (nt i1 (by simp)) (nt i2 (by simp)) e3⟩
  | succ m ih =>
    intro i h tk c acc ts hm hi q ha hb kp hS hacc hl g
    have lt : i < n := by omega
    have hsz : acc.size = i := by rw [← Array.length_toList, hacc, List.length_map, hl]
    have hx : va[i]? = some va[i] := Array.getElem?_eq_getElem (by omega)
    have hy : vb[i]? = some vb[i] := Array.getElem?_eq_getElem (by omega)
    have hSl : S < h.objs.size := Heap.lt_size hS
    refine codeAny_builtin PySem.F.entry_extend_loop ?_
    rw [Around.under_plainId PySem.F.plain_extend_loop _]
    show wpAny _ A.in1 (pyNext (.ref z) >>= _) _ _ _
    refine wpAny_bind (z_next (s := { s with heap := h, toks := tk }) (A := A.in1) D q ap hSl ha hb hx hy fun h' q' tp kq => ?_)
    dsimp only at tp kq ⊢
    have hS' := kq S _ (nS z (by simp)) (nS TO (by simp)) (nS i1 (by simp)) (nS i2 (by simp)) hS
    have up : ∀ b o, b ≠ S → h'.get? b = some o → (h'.update S (Obj.mapSeq (·.push (Value.ref h.objs.size)))).get? b = some o := fun b o hb e => (Heap.get?_update_other _ _ (Ne.symm hb)).trans e
    have on : ∀ b o, b ∉ [S, z, TO, i1, i2] → h.get? b = some o → (h'.update S (Obj.mapSeq (·.push (Value.ref h.objs.size)))).get? b = some o := fun b o hb e =>
      up b o (fun u => hb (by simp [u])) (kq b o (fun u => hb (by simp [u])) (fun u => hb (by simp [u])) (fun u => hb (by simp [u])) (fun u => hb (by simp [u])) e)
    show wpAny _ A.in1 (updateSeq S (·.push (Value.ref h.objs.size)) >>= _) _ _ _
    refine wpAny_bind ?_
    refine wpAny_updateSeq hS' rfl (wpAny_pure ⟨plainId_quiet PySem.F.plain_extend_loop _, ih (i + 1) _ tk _ (acc.push (Value.ref h.objs.size)) (ts ++ [h.objs.size]) (by omega) lt (q'.keep up ap)
      (by obtain ⟨o, e, r⟩ := ha; exact ⟨o, on l1 o n1 e, r⟩) (by obtain ⟨o, e, r⟩ := hb; exact ⟨o, on l2 o n2 e, r⟩) (fun b o hb e => on b o hb (kp b o hb e)) (Heap.get?_update_self _ hS' rfl) (by rw [Array.toList_push, hacc, List.map_append] <;> rfl) (by rw [List.length_append, hl] <;> rfl) ⟨?_, ?_, ?_⟩⟩)
      (by rw [hsz]; omega) (by show (acc.push (Value.ref h.objs.size)).size ≤ sizeLine + 1; rw [Array.size_push, hsz]; omega)
    · refine List.pairwise_append.mpr ⟨g.up, List.pairwise_singleton _ _, fun t ht u hu => ?_⟩
      rw [List.mem_singleton.mp hu]
      exact g.there ht
    · intro t ht
      rcases List.mem_append.mp ht with ht | ht
      · exact g.far t ht
      · rw [List.mem_singleton.mp ht]
        exact hSl
    · intro j t hj
      rcases Nat.lt_trichotomy j ts.length with o1 | o1 | o1
      · rw [List.getElem?_append_left o1] at hj
        obtain ⟨x, y, e1, e2, e3⟩ := g.two j t hj
        have ft := g.far t (List.mem_of_getElem? hj)
        have nt : ∀ c ∈ [z, TI, TO, i1, i2], t ≠ c := fun c hc => Nat.ne_of_gt (Nat.lt_trans (ap c hc) ft)
        exact ⟨x, y, e1, e2, up t _ (Nat.ne_of_gt ft) (kq t _ (nt z (by simp)) (nt TO (by simp)) (nt i1 (by simp)) (nt i2 (by simp)) e3)⟩
      · subst o1
        have et : h.objs.size = t := by simpa using hj
        subst et
        refine ⟨_, _, ?_, ?_, up _ _ (Nat.ne_of_gt hSl) tp⟩
        · rw [hl]
          exact hx
        · rw [hl]
          exact hy
      · have hno : (ts ++ [h.objs.size])[j]? = none := List.getElem?_eq_none (by rw [List.length_append, List.length_singleton]; omega)
        rw [hno] at hj
        cases hj
end
end Dv

set_option maxRecDepth 100000
set_option maxHeartbeats 4000000
/-! list(zip(a, b)): the call -/
namespace Dv
open PySem PySem.Spec PyProof.Rows L2
theorem zip_no_len : typeLookup (.type "zip") "__len__" = pure none := am_miss_of_fast (by decide +kernel)
theorem zip_no_hint : typeLookup (.type "zip") "__length_hint__" = pure none := am_miss_of_fast (by decide +kernel)
section
variable {prog : Program} {w : World} {A : Around} {E : Value → Shared → Prop} {s : Shared} {z TI TO i1 i2 l1 l2 : Addr} {va vb : Array Value} {n : Nat}
theorem ext_zip {R : Result → Shared → Prop} {S : Addr} {c0 : Nat} (hh : A.handled = none) (D : ZipApart z TI TO i1 i2 l1 l2) (ap : ∀ c ∈ [z, TI, TO, i1, i2], c < S) (n1 : l1 ∉ [S, z, TO, i1, i2]) (n2 : l2 ∉ [S, z, TO, i1, i2]) (hn : n ≤ sizeLine) (g1 : n ≤ va.size) (g2 : n ≤ vb.size)
    (he : va[n]? = none ∨ vb[n]? = none) (res : Value) (q : ZSt s.heap z TI TO i1 i2 l1 l2 0 S) (hty : s.TypeIs (.ref z) "zip") (hit : ∀ Q' : Value → Shared → Prop, Q' (.ref z) s → wpAny (model prog w) A.in1 (pyIter (.ref z)) Q' (fun e s' => R (.error e) s') s)
    (ha : s.heap.IsList l1 va) (hb : s.heap.IsList l2 vb) (hS : s.heap.get? S = some { cls := .type "list", dict := none, data := .seq #[] c0, slots := #[] })
    (hR : ∀ h' tk acc c ts, (∀ b o, b ∉ [S, z, TO, i1, i2] → s.heap.get? b = some o → h'.get? b = some o) → h'.get? S = some { cls := .type "list", dict := none, data := .seq acc c, slots := #[] } → ts.length = n → ZTs va vb S h' ts →
      acc.toList = ts.map Value.ref → R (.ok (.ret res)) { s with heap := h', toks := tk }) :
    wpAny (model prog w) A.in1 (Builtin.List.listExtendWith (.ref S) (.ref z) res)
      (fun fin s' => match fin with
        | .done f => R (.ok f) s'
        | .again c' => c'.quiet = true ∧ codeAny (model prog w) A c' R s')
      (fun e s' => R (.error e) s') s := by
  have nz : S ≠ z := Nat.ne_of_gt (ap z (by simp))
  have same : Builtin.List.listSameRef (.ref S) (.ref z) = false := by simp [Builtin.List.listSameRef, nz]
  have no1 : (Value.type "zip" == Value.type "list") = false := by decide
  have no2 : (Value.type "zip" == Value.type "tuple") = false := by decide
  unfold Builtin.List.listExtendWith
  refine wpAny_bind (wpAny_typeOf hty ?_)
  simp only [same, no1, no2, Bool.or_false, Bool.false_eq_true, if_false]
  refine wpAny_bind (hit _ ?_)
  refine wpAny_bind (wpAny_holding ?_)
  unfold Builtin.List.listLengthHint
  refine wpAny_bind (wpAny_specialOf hty zip_no_len ?_)
  refine wpAny_bind (m := specialOf (Value.ref z) (Str.ofString "__length_hint__")) (wpAny_specialOf hty zip_no_hint ?_)
  refine wpAny_pure ?_
  refine wpAny_bind (m := rule "list.extend.makes-room") (wpAny_rule ?_)
  refine wpAny_bind (m := Builtin.List.listTouch (.ref S)) ?_
  refine wpAny_bind (m := updateSeq S (·.push .none)) (wpAny_updateSeq hS rfl ?_)
  have hS1 := Heap.get?_update_self (Obj.mapSeq (·.push Value.none)) hS rfl
  refine wpAny_updateSeq (hz := by seq_fits) hS1 rfl ?_
  have hS2 := Heap.get?_update_self (Obj.mapSeq (·.pop)) hS1 rfl
  have up : ∀ b o, b ≠ S → s.heap.get? b = some o → ((s.heap.update S (Obj.mapSeq (·.push Value.none))).update S (Obj.mapSeq (·.pop))).get? b = some o :=
    fun b o hb e => (Heap.get?_update_other _ _ (Ne.symm hb)).trans ((Heap.get?_update_other _ _ (Ne.symm hb)).trans e)
  have m1 : l1 ≠ S := fun e => n1 (by simp [e])
  have m2 : l2 ≠ S := fun e => n2 (by simp [e])
  exact wpAny_pure ⟨plainId_quiet PySem.F.plain_extend_loop _, zl_loop (h0 := s.heap) (va := va) (vb := vb) hh D ap n1 n2 hn g1 g2 he res hR n 0 _ s.toks _ #[] [] (Nat.sub_zero _) (Nat.zero_le _) (q.keep up ap)
    (by obtain ⟨o, e, r⟩ := ha; exact ⟨o, up _ o m1 e, r⟩) (by obtain ⟨o, e, r⟩ := hb; exact ⟨o, up _ o m2 e, r⟩) (fun b o hb e => up b o (fun u => hb (by simp [u])) e) hS2 rfl rfl ⟨List.Pairwise.nil, (fun _ h => nomatch h), fun j t h => by simp at h⟩⟩
theorem call_list_zip {Q : Value → Shared → Prop} (hh : A.handled = none) (D : ZipApart z TI TO i1 i2 l1 l2) (ap : ∀ c ∈ [z, TI, TO, i1, i2], c < s.heap.objs.size) (n1 : l1 ∉ [z, TO, i1, i2]) (n2 : l2 ∉ [z, TO, i1, i2]) (hn : n ≤ sizeLine) (g1 : n ≤ va.size) (g2 : n ≤ vb.size)
    (he : va[n]? = none ∨ vb[n]? = none) (q : ZSt s.heap z TI TO i1 i2 l1 l2 0 s.heap.objs.size) (hz : ∃ f, IsZip s.heap z TI TO f) (ha : s.heap.IsList l1 va) (hb : s.heap.IsList l2 vb)
    (hQ : ∀ h' tk acc c ts, (∀ b o, b ∉ [s.heap.objs.size, z, TO, i1, i2] → s.heap.get? b = some o → h'.get? b = some o) → h'.get? s.heap.objs.size = some { cls := .type "list", dict := none, data := .seq acc c, slots := #[] } → ts.length = n → ZTs va vb s.heap.objs.size h' ts →
      acc.toList = ts.map Value.ref → Q (.ref s.heap.objs.size) { s with heap := h', toks := tk }) :
    wpAny (model prog w) A (call (.type "list") [.ref z]) Q E s := by
  obtain ⟨f, hz⟩ := hz
  have lt : ∀ {b o}, s.heap.get? b = some o → b ≠ s.heap.objs.size := fun e => Nat.ne_of_lt (Heap.lt_size e)
  refine callType_codes (Q₁ := fun obj t => obj = .ref s.heap.objs.size ∧ t = { s with heap := s.heap.push { cls := .type "list", data := .seq #[] } }) PySem.F.called_list (PySem.F.typeCall_list_1 _) PySem.F.entry_list_init
    (code_list_new _ ⟨rfl, rfl⟩) fun obj t ht => ?_
  obtain ⟨rfl, rfl⟩ := ht
  have hS : (s.heap.push { cls := .type "list", data := .seq #[] }).get? s.heap.objs.size = some { cls := .type "list", data := .seq #[] } := Heap.get?_push_size _ rfl
  refine ⟨⟨_, hS, rfl⟩, PySem.F.args_list_init_2 _ _, ?_⟩
  refine wpAny_bind (m := Builtin.List.listItems (.ref s.heap.objs.size)) ?_
  unfold Builtin.List.listItems
  refine wpAny_bind (wpAny_seqItems hS rfl (wpAny_pure ?_))
  refine wpAny_bind (m := updateSeq s.heap.objs.size (fun _ => #[])) (wpAny_updateSeq hS rfl ?_)
  have hS2 := Heap.get?_update_self (Obj.mapSeq (fun _ => (#[] : Array Value))) hS rfl
  have up : ∀ b o, s.heap.get? b = some o → ((s.heap.push { cls := .type "list", data := .seq #[] }).update s.heap.objs.size (Obj.mapSeq (fun _ => (#[] : Array Value)))).get? b = some o :=
    fun b o e => (Heap.get?_update_other _ _ (Ne.symm (lt e))).trans (Heap.get?_push_of_some _ e)
  refine wpAny_bind (m := letGo (#[] : Array Value).toList.reverse) (wpAny_letGo ?_)
  have k1 : l1 ∉ [s.heap.objs.size, z, TO, i1, i2] := by
    obtain ⟨o, e, _⟩ := ha
    intro h
    rcases List.mem_cons.mp h with h | h
    · exact lt e h
    · exact n1 h
  have k2 : l2 ∉ [s.heap.objs.size, z, TO, i1, i2] := by
    obtain ⟨o, e, _⟩ := hb
    intro h
    rcases List.mem_cons.mp h with h | h
    · exact lt e h
    · exact n2 h
  show wpAny _ A.in1.in1 (Builtin.List.listExtendWith (.ref s.heap.objs.size) (.ref z) .none) _ _ _
  refine ext_zip (A := A.in1) (R := wants (fun r s2 => r = Value.none ∧ Q (Value.ref s.heap.objs.size) s2) E) (n := n) (va := va) (vb := vb) (s := { s with heap := (s.heap.push { cls := .type "list", data := .seq #[] }).update s.heap.objs.size (Obj.mapSeq (fun _ => (#[] : Array Value))) }) hh D ap k1 k2 hn g1 g2 he .none
    (q.keep (fun c o _ e => up c o e) ap) ⟨_, up _ _ hz, rfl⟩ (fun Q' h => wpAny_pyIter_zip (up _ _ hz) h) (by obtain ⟨o, e, r⟩ := ha; exact ⟨o, up _ o e, r⟩) (by obtain ⟨o, e, r⟩ := hb; exact ⟨o, up _ o e, r⟩) hS2 fun h' tk acc c ts kp hS' hl g hacc => ?_
  exact ⟨rfl, hQ h' tk acc c ts (fun b o hb e => kp b o hb (up b o e)) hS' hl g hacc⟩
end
end Dv

set_option maxRecDepth 100000
set_option maxHeartbeats 4000000
/-! list(zip(a, b)): its rule -/
namespace Dv
open PySem PySem.Spec PyProof.Rows L2
/-- pairs laid at these addresses -/
def layP : Hp → List Addr → List (V × V) → Hp
  | H, t :: ts, p :: ps => layP (upd H t (.tup [p.1, p.2])) ts ps
  | H, _, _ => H
theorem layP_off {b : Addr} : ∀ (ts : List Addr) (ps : List (V × V)) (H : Hp), b ∉ ts → layP H ts ps b = H b
  | [], _, _, _ => rfl
  | _ :: _, [], _, _ => rfl
  | t :: ts, p :: ps, H, h => (layP_off ts ps _ fun z => h (List.mem_cons_of_mem _ z)).trans (upd_ne fun z => h (by rw [z]; exact List.mem_cons_self))
theorem layP_at : ∀ (ts : List Addr) (ps : List (V × V)) (H : Hp), ts.length = ps.length → ts.Nodup → ∀ (j : Nat) (t : Addr), ts[j]? = some t → ∃ p, ps[j]? = some p ∧ layP H ts ps t = some (.tup [p.1, p.2])
  | [], _, _, _, _, _, _, e => by simp at e
  | _ :: _, [], _, h, _, _, _, _ => by simp at h
  | t :: ts, p :: ps, H, h, nd, 0, u, e => by
    have et : t = u := by simpa using e
    subst et
    exact ⟨p, rfl, (layP_off ts ps _ (List.nodup_cons.mp nd).1).trans upd_same⟩
  | t :: ts, p :: ps, H, h, nd, j + 1, u, e => layP_at ts ps _ (by simpa using h) (List.nodup_cons.mp nd).2 j u (by simpa using e)
theorem refs_vals : ∀ ts : List Addr, Vals (ts.map V.ref) (ts.map Value.ref)
  | [] => .nil
  | _ :: r => .cons rfl (refs_vals r)
theorem vals_at : ∀ {xs : List V} {us : List Value}, Vals xs us → ∀ {j : Nat} {x : V} {u : Value}, xs[j]? = some x → us[j]? = some u → RelV x u
  | _, _, .cons r _, 0, _, _, h1, h2 => by
    have e1 := Option.some.inj h1
    have e2 := Option.some.inj h2
    subst e1
    subst e2
    exact r
  | _, _, .cons _ t, _ + 1, _, _, h1, h2 => vals_at t (by simpa using h1) (by simpa using h2)
section
variable {X : Cx} {pins : List (Addr × Obj)} {σ : L2.St} {H : Hp} {s : Shared}
theorem zip_laid {h' : Heap} {tk : Nat} {xs ys : List V} {ia ib : List Value} {acc : Array Value} {c : Nat} {S : Addr} {ts : List Addr} (I : Inv X pins σ H s) (hz : ts.length ≤ sizeLine) (r1 : Vals xs ia) (r2 : Vals ys ib) (hl : ts.length = (xs.zip ys).length)
    (hk : ∀ b o, s.heap.get? b = some o → h'.get? b = some o) (hle : s.heap.objs.size ≤ S) (hS : h'.get? S = some { cls := .type "list", dict := none, data := .seq acc c, slots := #[] }) (g : ZTs ia.toArray ib.toArray S h' ts) (hacc : acc.toList = ts.map Value.ref) :
    H S = none ∧ S ∉ ts ∧ ts.Nodup ∧ (∀ t ∈ ts, H t = none) ∧ Inv X pins σ (layP (upd H S (.lst (ts.map V.ref))) ts (xs.zip ys)) { s with heap := h', toks := tk } := by
  have nS : S ∉ ts := fun z => Nat.lt_irrefl _ (g.far _ z)
  have nd : ts.Nodup := List.Pairwise.imp (fun {a b} (h : a < b) => Nat.ne_of_lt h) g.up
  have old : ∀ t ∈ ts, s.heap.objs.size ≤ t := fun t ht => Nat.le_trans hle (Nat.le_of_lt (g.far t ht))
  have fr : ∀ t ∈ ts, H t = none := fun t ht => I.hok.fresh (old t ht)
  have frS : H S = none := I.hok.fresh hle
  have atP := layP_at ts (xs.zip ys) (upd H S (.lst (ts.map V.ref))) hl nd
  have off : ∀ b, b ∉ ts → b ≠ S → layP (upd H S (.lst (ts.map V.ref))) ts (xs.zip ys) b = H b := fun b h1 h2 => (layP_off ts _ _ h1).trans (upd_ne h2)
  have low : ∀ b o, s.heap.get? b = some o → b ∉ ts ∧ b ≠ S := fun b o e => ⟨fun z => Nat.not_lt.mpr (old b z) (Heap.lt_size e), fun z => Nat.not_lt.mpr hle (z ▸ Heap.lt_size e)⟩
  have kp : ∀ b u, H b = some u → layP (upd H S (.lst (ts.map V.ref))) ts (xs.zip ys) b = some u := fun b u e => (off b (fun z => by rw [fr b z] at e; cases e) (fun z => by rw [z, frS] at e; cases e)).trans e
  have eS : layP (upd H S (.lst (ts.map V.ref))) ts (xs.zip ys) S = some (.lst (ts.map V.ref)) := (layP_off ts _ _ nS).trans upd_same
  refine ⟨frS, nS, nd, fr, I.call' (ch := []) rfl ⟨fun b o q _ _ _ => hk b o q, fun b o q _ _ _ => ⟨o.slots, hk b o q⟩, fun b o q n _ => ?_, fun b o q _ => ⟨o, hk b o q⟩, fun b xs q => kp b _ q, fun b o u q => kp b _ q, fun b ps q => ⟨#[], by rw [kp b _ q]; simp⟩⟩ (fun b u q => ?_) I.bare fun b z => by simp at z⟩
  · obtain ⟨z1, z2⟩ := low b o q
    rw [off b z1 z2]
    exact n
  · by_cases hb : b ∈ ts
    · obtain ⟨j, hj⟩ := List.mem_iff_getElem?.mp hb
      obtain ⟨p, e1, e2⟩ := atP j b hj
      rw [e2] at q
      cases q
      obtain ⟨x, y, f1, f2, f3⟩ := g.two j b hj
      obtain ⟨p1, p2⟩ := p
      obtain ⟨g1, g2⟩ := List.getElem?_zip_eq_some.mp e1
      exact ⟨by show 2 ≤ sizeLine; decide, [x, y], .cons (vals_at r1 g1 (by simpa using f1)) (.cons (vals_at r2 g2 (by simpa using f2)) .nil), ⟨_, f3, rfl, _, rfl⟩⟩
    · by_cases hb2 : b = S
      · rw [hb2] at q ⊢
        rw [eS] at q
        cases q
        refine ⟨by rw [List.length_map]; exact hz, acc.toList, c, by rw [hacc]; exact refs_vals ts, ?_⟩
        rw [Array.toArray_toList]
        exact hS
      · rw [off b hb hb2] at q
        exact (I.hok b u q).stay (fun d v _ y => hk d v y) (fun d y => kp d _ y) fun d xs y => kp d _ y
def rZipL (K : PySem.W.Frag) : List V → Hp → VK → Prop := fun vs H Q => ∃ a b xs ys, vs = [.ref a, .ref b] ∧ SqL K H a xs ∧ SqL K H b ys ∧
  ∀ (S : Addr) (ts : List Addr), H S = none → S ∉ ts → ts.Nodup → (∀ t ∈ ts, H t = none) → ts.length = (xs.zip ys).length → Q (.ref S) (layP (upd H S (.lst (ts.map V.ref))) ts (xs.zip ys))
def tZipL (K : PySem.W.Frag) (ta : TA) : TE := fun σ H Q => ta σ H fun vs H1 => rZipL K vs H1 Q
theorem pe_listZip {e1 e2 : Expr} {ta : TA} {p pz pos posz : Pos} (hc : X.calm = true) (hg : Gl X "list") (hm : X.mg "list" = none) (hgz : Gl X "zip") (hmz : X.mg "zip" = none) (ha : PA X [e1, e2] ta)
    (na : starEach [.Call (.Name "zip" pz) [e1, e2] [] posz] X.env = (false, eval (.Call (.Name "zip" pz) [e1, e2] [] posz) X.env) :: starEach [] X.env := by rfl)
    (hs : starEach [e1, e2] X.env = (false, eval e1 X.env) :: starEach [e2] X.env := by rfl) (hpl : (backTo posz (starEach [e2] X.env)).any (·.1) = false := by rfl) :
    PE X (.Call (.Name "list" p) [.Call (.Name "zip" pz) [e1, e2] [] posz] [] pos) (tZipL X.K ta) := by
  refine ⟨fun pins s σ H Q I h => ?_⟩
  refine Call_ (ld_blt I hg hm boot_list (PyProof.Rows.callWith_type1 (args_cons (Call_ (ld_blt I hgz hmz PyProof.Rows.boot_zip (PyProof.Rows.callWith_type1 (thn (ha.run posz pins s σ H _ I h) fun us s1 ⟨vs, H1, I1, r1, q1⟩ => ?_) hs hpl))) na) na))
  obtain ⟨a, b, xs, ys, ex, hqx, hqy, q⟩ := q1
  subst ex
  cases r1 with
  | cons r rr =>
    cases rr with
    | cons r' rr =>
      cases rr
      cases r
      cases r'
      obtain ⟨its, rv, p1, z1⟩ := I1.list hqx
      obtain ⟨its2, rv2, p2, z2⟩ := I1.list hqy
      have la : a < s1.heap.objs.size := p1.lt
      have lb : b < s1.heap.objs.size := p2.lt
      have l1 := rv.length
      have l2 := rv2.length
      refine call_zip_2 p1.isList p2.isList fun h' hz hTI hTO h1 h2 hsz hk => args_nil ?_
      have ap : ∀ c ∈ [s1.heap.objs.size + 4, s1.heap.objs.size + 2, s1.heap.objs.size + 3, s1.heap.objs.size, s1.heap.objs.size + 1], c < h'.objs.size := fun c hc => by
        rw [hsz]
        simp at hc
        omega
      have nin : ∀ c, c < s1.heap.objs.size → c ∉ [s1.heap.objs.size + 4, s1.heap.objs.size + 3, s1.heap.objs.size, s1.heap.objs.size + 1] := fun c hc hm => by
        simp at hm
        omega
      have nin2 : ∀ c, c < s1.heap.objs.size → c ∉ [h'.objs.size, s1.heap.objs.size + 4, s1.heap.objs.size + 3, s1.heap.objs.size, s1.heap.objs.size + 1] := fun c hc hm => by
        rw [hsz] at hm
        simp at hm
        omega
      refine call_list_zip (s := { s1 with heap := h' }) (n := (xs.zip ys).length) (va := its.toArray) (vb := its2.toArray) (I1.ok.hd hc) (PySem.W.ktu_apart s1.heap.objs.size a b la lb) ap (nin a la) (nin b lb) (by rw [List.length_zip]; omega) (by rw [List.length_zip]; simp; omega) (by rw [List.length_zip]; simp; omega) ?_
        ⟨hTI, h1, h2, .inl ⟨hz, _, _, hTO⟩⟩ ⟨_, hz⟩ (by obtain ⟨o, e, r⟩ := p1.isList; exact ⟨o, hk _ o e, r⟩) (by obtain ⟨o, e, r⟩ := p2.isList; exact ⟨o, hk _ o e, r⟩) fun h2' tk acc c ts kp hS hl g hacc => ?_
      · rw [List.length_zip]
        rcases Nat.le_total xs.length ys.length with hq | hq
        · exact .inl (by simp; omega)
        · exact .inr (by simp; omega)
      · obtain ⟨k1, k2, k3, k4, J⟩ := zip_laid (tk := tk) I1 (by rw [hl, List.length_zip]; omega) rv rv2 hl (fun b o e => kp b o (nin2 b (Heap.lt_size e)) (hk b o e)) (by rw [hsz]; omega) hS g hacc
        exact ⟨.ref _, _, J, rfl, q _ ts k1 k2 k3 k4 hl⟩
end
end Dv

set_option maxRecDepth 100000
set_option maxHeartbeats 4000000
/-! list(zip(a, b)) on data -/
namespace Dv
open PySem PySem.Spec PyProof.Rows L2
section
variable {X : Cx} {cl : Cl} {e : Ent} {W : WX} {ca : List Addr} {σ : L2.St} {s : S}
theorem lay_B : ∀ (ts : List Addr) {va vb : List V} {as bs : List D} {F H : Hp}, Bx X cl e F H ca σ s → IsL X.K cl F ca va as → IsL X.K cl F ca vb bs → ts.length = (va.zip vb).length → ts.Nodup → (∀ t ∈ ts, H t = none) →
    ∃ F', Ex F F' ∧ (∀ b o, H b = some o → F b = none → F' b = none) ∧ Bx X cl e F' (layP H ts (va.zip vb)) ca σ s ∧ IsL X.K cl F' ca (ts.map V.ref) (pairs as bs)
  | [], va, vb, as, bs, F, H, b, ia, ib, hl, nd, fr => by
    refine ⟨F, Ex.refl F, fun _ _ _ n => n, ?_, ?_⟩
    · exact b
    · cases ia with
      | nil => exact .nil
      | cons x t =>
        cases ib with
        | nil => exact .nil
        | cons y u => simp at hl
  | t :: ts, va, vb, as, bs, F, H, b, ia, ib, hl, nd, fr => by
    cases ia with
    | nil => simp at hl
    | cons x ta =>
      cases ib with
      | nil => simp at hl
      | cons y tb =>
        obtain ⟨F2, x2, f2, _, b2, i2⟩ := wk_new b (fr t (by simp)) x y
        obtain ⟨nt, nd2⟩ := List.nodup_cons.mp nd
        obtain ⟨F3, x3, f3, b3, i3⟩ := lay_B ts b2 (ta.mono x2 (Pre.refl ca)) (tb.mono x2 (Pre.refl ca)) (by simpa using hl) nd2 (fun u hu => by
          rw [upd_ne (fun z : u = t => nt (z ▸ hu))]
          exact fr u (List.mem_cons_of_mem _ hu))
        refine ⟨F3, x2.trans x3, fun c o hc n => f3 c o ?_ (f2 c o hc n), b3, .cons (i2.mono x3 (Pre.refl ca)) i3⟩
        rw [upd_ne (ne_of_none hc (fr t (by simp)))]
        exact hc
end
noncomputable def dListZip (ga : DA) : DE := fun s => bindIR (iA zipU ga s) fun xs s1 => .nl xs s1
section
variable {X : Cx} {cl : Cl} {e : Ent} {W : WX}
theorem rd_listZip {ga : DA} {σ : L2.St} {H : Hp} {Q : VK} (h : rd X.K cl e W (dListZip ga) σ H Q) : tZipL X.K (rdA X.K cl e W ga) σ H Q := by
  obtain ⟨F, ca, s, b, q⟩ := h
  refine use_iAR b q fun vs ds xs s1 F1 H1 ca1 b1 i1 hk q1 => ?_
  obtain ⟨da, db, as, bs, rfl, e1, e2, rfl⟩ := zipU_eq hk
  cases i1 with
  | cons ia it =>
    cases it with
    | cons ib it =>
      cases it
      obtain ⟨a, va, rfl, la, ja⟩ := frL_ok ia e1
      obtain ⟨c, vb, rfl, lb, jb⟩ := frL_ok ib e2
      refine ⟨a, c, va, vb, rfl, ex_l b1.fh la, ex_l b1.fh lb, fun S ts hS nS nd fr hl => ?_⟩
      obtain ⟨F2, x2, f2, b2, i2⟩ := lay_B ts (b1.laid (o := .lst (ts.map V.ref)) hS) ja jb hl nd (fun t ht => by
        rw [upd_ne (fun z : t = S => nS (z ▸ ht))]
        exact fr t ht)
      exact q1 _ F2 _ ca1 b2 x2 (Pre.refl ca1) ⟨S, _, rfl, (layP_off ts _ _ nS).trans upd_same, i2, f2 S _ upd_same (b1.notF hS), b1.notca hS, b1.notH0 hS⟩
theorem e_listZip {a b : Expr} {ga : DA} {p pz pos posz : Pos} (hc : X.calm = true) (hg : Gl X "list") (hm : X.mg "list" = none) (hgz : Gl X "zip") (hmz : X.mg "zip" = none) (ha : PAd X cl e W [a, b] ga)
    (na : starEach [.Call (.Name "zip" pz) [a, b] [] posz] X.env = (false, eval (.Call (.Name "zip" pz) [a, b] [] posz) X.env) :: starEach [] X.env := by rfl)
    (hs : starEach [a, b] X.env = (false, eval a X.env) :: starEach [b] X.env := by rfl) (hpl : (backTo posz (starEach [b] X.env)).any (·.1) = false := by rfl) :
    PEd X cl e W (.Call (.Name "list" p) [.Call (.Name "zip" pz) [a, b] [] posz] [] pos) (dListZip ga) :=
  pe_w (pe_listZip hc hg hm hgz hmz ha na hs hpl) fun _ _ _ q => rd_listZip q
theorem r_listZip {f g : DE} {as bs : List D} {s s1 s2 : S} (h1 : f s = .ok (.lst as) s1) (h2 : g s1 = .ok (.lst bs) s2) : dListZip (aCons f (aCons g aNil)) s = .nl (pairs as bs) s2 := by
  unfold dListZip iA
  rw [r_a2 h1 h2] <;> rfl
end
end Dv

set_option maxRecDepth 100000
set_option maxHeartbeats 4000000
/-! while, x += .., is None, a < b < c -/
namespace Dv
open PySem PySem.Spec PyProof.Rows L2
/-- so many turns at most -/
def wl (c : DB) (b : DS) : Nat → DS
  | 0, _ => .no
  | n + 1, s => bindBO (c s) fun t s1 => if t = true then loopK (b s1) (wl c b n) else .nx s1
open Classical in
/-- as many turns as it takes -/
noncomputable def sWhile (c : DB) (b : DS) : DS := fun s => if h : ∃ n, wl c b n s ≠ .no then wl c b h.choose s else .no
theorem wl_succ {c : DB} {b : DS} : ∀ (n : Nat) (s : S), wl c b n s ≠ .no → wl c b (n + 1) s = wl c b n s
  | 0, s, h => absurd rfl h
  | n + 1, s, h => by
    have h1 : (bindBO (c s) fun t s1 => if t = true then loopK (b s1) (wl c b n) else .nx s1) ≠ .no := h
    show (bindBO (c s) fun t s1 => if t = true then loopK (b s1) (wl c b (n + 1)) else .nx s1) = bindBO (c s) fun t s1 => if t = true then loopK (b s1) (wl c b n) else .nx s1
    cases e1 : c s with
    | ok t s1 =>
      rw [e1] at h1
      have h2 : (if t = true then loopK (b s1) (wl c b n) else O.nx s1) ≠ .no := h1
      show (if t = true then loopK (b s1) (wl c b (n + 1)) else O.nx s1) = if t = true then loopK (b s1) (wl c b n) else O.nx s1
      cases t with
      | false => rfl
      | true =>
        rw [if_pos rfl] at h2
        rw [if_pos rfl, if_pos rfl]
        cases e2 : b s1 with
        | nx s2 =>
          rw [e2] at h2
          exact wl_succ n s2 h2
        | ct s2 =>
          rw [e2] at h2
          exact wl_succ n s2 h2
        | _ => rfl
    | _ => rfl
theorem wl_add {c : DB} {b : DS} {n : Nat} {s : S} (h : wl c b n s ≠ .no) : ∀ k, wl c b (n + k) s = wl c b n s
  | 0 => rfl
  | k + 1 => by
    have ih := wl_add h k
    rw [← Nat.add_assoc, wl_succ (n + k) s (by rw [ih]; exact h), ih]
theorem r_while {c : DB} {b : DS} {s : S} {o : O} (n : Nat) (h : wl c b n s = o) (ho : o ≠ .no) : sWhile c b s = o := by
  have hx : ∃ n, wl c b n s ≠ .no := ⟨n, by rw [h]; exact ho⟩
  unfold sWhile
  rw [dif_pos hx]
  have hc := hx.choose_spec
  rcases Nat.le_total hx.choose n with z | z
  · obtain ⟨k, hk⟩ := Nat.exists_eq_add_of_le z
    rw [← wl_add hc k, ← hk, h]
  · obtain ⟨k, hk⟩ := Nat.exists_eq_add_of_le z
    have hn : wl c b n s ≠ .no := by rw [h]; exact ho
    rw [hk, wl_add hn k, h]
theorem wl_t {c : DB} {b : DS} {s s1 s2 : S} {n : Nat} {o : O} (hc : c s = .ok true s1) (hb : b s1 = .nx s2) (h : wl c b n s2 = o) : wl c b (n + 1) s = o := by
  show (bindBO (c s) fun t s1 => if t = true then loopK (b s1) (wl c b n) else .nx s1) = o
  rw [hc]
  show (if true = true then loopK (b s1) (wl c b n) else .nx s1) = o
  rw [if_pos rfl, hb]
  exact h
theorem wl_f {c : DB} {b : DS} {s s1 : S} {n : Nat} (hc : c s = .ok false s1) : wl c b (n + 1) s = .nx s1 := by
  show (bindBO (c s) fun t s1 => if t = true then loopK (b s1) (wl c b n) else .nx s1) = _
  rw [hc] <;> rfl
section
variable {X : Cx} {cl : Cl} {e : Ent} {W : WX} {f g h : DE}
theorem s_while {c : Expr} {bd : List Stmt} {dc : DB} {db : DS} {pos : Pos} (hp : PassesOwn (model X.prog X.w) X.A X.env X.xe) (hc : PTd X cl e W c dc) (hb : PSsd X cl e W bd db) : PSd X cl e W (.While c bd [] pos) (sWhile dc db) :=
  ps_w (ps_while hp hc hb) fun Dn σ H ⟨F, ca, s, b, q⟩ => by
    unfold sWhile at q
    split at q
    · rename_i hx
      refine ⟨fun m σ1 H1 => ∃ F1 ca1 s1, Bx X cl e F1 H1 ca1 σ1 s1 ∧ Ex F F1 ∧ Pre ca ca1 ∧ rdSK X.K cl e W F1 ca1 Dn (wl dc db m s1), ⟨_, F, ca, s, b, Ex.refl F, Pre.refl ca, q⟩, fun m σ1 H1 ⟨F1, ca1, s1, b1, x1, p1, q1⟩ => ?_⟩
      cases m with
      | zero => exact False.elim q1
      | succ n =>
        have q2 : rdSK X.K cl e W F1 ca1 Dn (bindBO (dc s1) fun t s2 => if t = true then loopK (db s2) (wl dc db n) else .nx s2) := q1
        refine useS_rdB b1 q2 fun t s2 F2 H2 ca2 b2 x2 p2 q3 => ?_
        cases t with
        | false => exact q3 σ1 F2 H2 ca2 b2 (Ex.refl F2) (Pre.refl ca2)
        | true =>
          rw [if_pos rfl] at q3
          rw [if_pos rfl]
          refine ⟨fun σ' H' => ∃ F1 ca1 s1, Bx X cl e F1 H' ca1 σ' s1 ∧ Ex F F1 ∧ Pre ca ca1 ∧ rdSK X.K cl e W F1 ca1 Dn (wl dc db n s1), fun σ' H' w => ⟨n, Nat.lt_succ_self n, w⟩, F2, ca2, s2, b2, ?_⟩
          cases e2 : db s2 with
          | nx s3 =>
            rw [e2] at q3
            exact fun σ3 F3 H3 ca3 b3 x3 p3 => ⟨F3, ca3, s3, b3, x1.trans (x2.trans x3), p1.trans (p2.trans p3), rdSK.back x3 p3 q3⟩
          | ct s3 =>
            rw [e2] at q3
            exact fun σ3 F3 H3 ca3 b3 x3 p3 => ⟨F3, ca3, s3, b3, x1.trans (x2.trans x3), p1.trans (p2.trans p3), rdSK.back x3 p3 q3⟩
          | bk s3 =>
            rw [e2] at q3
            exact q3
          | rt d s3 =>
            rw [e2] at q3
            exact q3
          | rl d s3 =>
            rw [e2] at q3
            exact q3
          | ri c d s3 =>
            rw [e2] at q3
            exact q3
          | er xc s3 =>
            rw [e2] at q3
            exact q3
          | no =>
            rw [e2] at q3
            exact q3
    · exact False.elim q
/-! x op= .. of whole numbers -/
def augK (i : Nat) (k : Int → Int → Int) (a : D) (d : D) (s : S) : O := match a, d with
  | .int x, .int y => .nx ⟨s.sl.set i (some (.int (k x y))), s.ce, s.n0⟩
  | _, _ => .no
def sAug (i : Nat) (k : Int → Int → Int) (f : DE) : DS := fun s => match s.sl[i]? with
  | some (some a) => bindO (f s) fun d s1 => augK i k a d s1
  | _ => .no
theorem s_aug {i : Nat} {k : Int → Int → Int} {st : Stmt} (hst : PS X st (tAug i (rd X.K cl e W f) (ipI k))) : PSd X cl e W st (sAug i k f) := ps_w hst fun Dn σ H ⟨F, ca, s, b, q⟩ => by
  unfold sAug at q
  cases z : s.sl[i]? with
  | none =>
    rw [z] at q
    exact False.elim q
  | some o =>
    rw [z] at q
    cases o with
    | none => exact False.elim q
    | some a =>
      obtain ⟨v, h1, h2⟩ := b.slo i a z
      refine ⟨v, h1, useS_rd b q fun w d s1 F1 H1 ca1 b1 i1 x1 p1 q1 => ?_⟩
      have h3 := h2.mono x1 p1
      cases h3 with
      | int n =>
        cases i1 with
        | int m => exact ⟨n, m, rfl, rfl, q1 _ F1 H1 ca1 (b1.put (.int _)) (Ex.refl F1) (Pre.refl ca1)⟩
        | _ => exact False.elim q1
      | _ => cases i1 <;> exact False.elim q1
theorem r_aug {s s1 : S} {i : Nat} {k : Int → Int → Int} {x y : Int} (h0 : s.sl[i]? = some (some (.int x))) (hf : f s = .ok (.int y) s1) : sAug i k f s = .nx ⟨s1.sl.set i (some (.int (k x y))), s1.ce, s1.n0⟩ := by
  unfold sAug
  rw [h0]
  show bindO (f s) _ = _
  rw [hf] <;> rfl
/-! is None -/
theorem e_is {a b : Expr} {pos : Pos} (ha : PEd X cl e W a f) (hb : PEd X cl e W b g) (hm : behindInMarks .Is b = false := by rfl) : PEd X cl e W (.Compare a [.Is] [b] pos) (dOp (pIs false) f g) := d_cmp op_isN od_is ha hb hm
theorem c_is {a b : Expr} {pos : Pos} (ha : PEd X cl e W a f) (hb : PEd X cl e W b g) (hm : behindInMarks .Is b = false := by rfl) : PTd X cl e W (.Compare a [.Is] [b] pos) (bTest (dOp (pIs false) f g)) := t_cmp op_isN od_is ha hb hm
/-! a < b < c of whole numbers -/
def chK (h : DE) (a b : D) (s : S) : R := match a, b with
  | .int x, .int y => if x < y then bindR (h s) fun c s1 => (match c with
    | .int z => .ok (.bl (decide (y < z))) s1
    | _ => .no) else .ok (.bl false) s
  | _, _ => .no
def dChLL (f g h : DE) : DE := fun s => bindR (f s) fun a s1 => bindR (g s1) fun b s2 => chK h a b s2
theorem rd_chLL {σ : L2.St} {H : Hp} {Q : VK} (q : rd X.K cl e W (dChLL f g h) σ H Q) :
    tChain (rI0 fun i j => .bl (decide (i < j))) (rI0 fun i j => .bl (decide (i < j))) (rd X.K cl e W f) (rd X.K cl e W g) (rd X.K cl e W h) σ H Q := by
  obtain ⟨F, ca, s, b, q⟩ := q
  refine use_rd b q fun v1 d1 s1 F1 H1 ca1 b1 i1 x1 p1 q1 => ?_
  refine use_rd b1 q1 fun v2 d2 s2 F2 H2 ca2 b2 i2 x2 p2 q2 => ?_
  cases i1 with
  | int x =>
    cases i2 with
    | int y =>
      refine ⟨x, y, rfl, rfl, _, rfl, ?_⟩
      have q3 : rdK X.K cl e W σ F2 ca2 Q (if x < y then bindR (h s2) fun c s1 => (match c with
        | .int z => .ok (.bl (decide (y < z))) s1
        | _ => .no) else .ok (.bl false) s2) := q2
      by_cases hz : x < y
      · rw [if_pos hz] at q3
        rw [if_pos (decide_eq_true hz)]
        refine use_rd b2 q3 fun v3 d3 s3 F3 H3 ca3 b3 i3 x3 p3 q4 => ?_
        cases i3 with
        | int z => exact ⟨y, z, rfl, rfl, q4 _ F3 H3 ca3 b3 (Ex.refl F3) (Pre.refl ca3) (.bl _)⟩
        | _ => exact False.elim q4
      · rw [if_neg hz] at q3
        rw [if_neg (by rw [decide_eq_false hz]; decide)]
        exact q3 _ F2 H2 ca2 b2 (Ex.refl F2) (Pre.refl ca2) (.bl _)
    | _ => exact False.elim q2
  | _ => cases i2 <;> exact False.elim q2
theorem e_chLL {a b c : Expr} {pos : Pos} (ha : PEd X cl e W a f) (hb : PEd X cl e W b g) (hc : PEd X cl e W c h) (hm : lastMarks [.Lt, .Lt] [b, c] = false := by with_unfolding_all rfl) : PEd X cl e W (.Compare a [.Lt, .Lt] [b, c] pos) (dChLL f g h) :=
  pe_w (pe_chain op_lt op_lt ha hb hc hm) fun _ _ _ q => rd_chLL q
theorem c_chLL {a b c : Expr} {pos : Pos} (ha : PEd X cl e W a f) (hb : PEd X cl e W b g) (hc : PEd X cl e W c h) (hm : lastMarks [.Lt, .Lt] [b, c] = false := by with_unfolding_all rfl) : PTd X cl e W (.Compare a [.Lt, .Lt] [b, c] pos) (bTest (dChLL f g h)) :=
  pt_w (pt_chain op_lt op_lt ha hb hc hm) fun _ _ _ q => rd_chLL (rd_test q)
theorem r_chLL_t {s s1 s2 s3 : S} {x y z : Int} (h1 : f s = .ok (.int x) s1) (h2 : g s1 = .ok (.int y) s2) (hz : x < y) (h3 : h s2 = .ok (.int z) s3) : dChLL f g h s = .ok (.bl (decide (y < z))) s3 := by
  unfold dChLL
  rw [h1]
  show bindR (g s1) _ = _
  rw [h2]
  show (if x < y then bindR (h s2) fun c s1 => (match c with
    | .int z => R.ok (.bl (decide (y < z))) s1
    | _ => .no) else .ok (.bl false) s2) = _
  rw [if_pos hz, h3] <;> rfl
theorem r_chLL_f {s s1 s2 : S} {x y : Int} (h1 : f s = .ok (.int x) s1) (h2 : g s1 = .ok (.int y) s2) (hz : ¬ x < y) : dChLL f g h s = .ok (.bl false) s2 := by
  unfold dChLL
  rw [h1]
  show bindR (g s1) _ = _
  rw [h2]
  show (if x < y then bindR (h s2) fun c s1 => (match c with
    | .int z => R.ok (.bl (decide (y < z))) s1
    | _ => .no) else .ok (.bl false) s2) = _
  rw [if_neg hz]
end
end Dv

set_option maxRecDepth 100000
set_option maxHeartbeats 4000000
/-! x in o, o an instance of the text's class -/
namespace Dv
open PySem PySem.Spec PyProof.Rows L2
def boolR : R → R
  | .ok (.bl t) s => .ok (.bl t) s
  | .er x s => .er x s
  | _ => .no
def dInO (c0 : Nat) (m : Fn) (f g : DE) : DE := fun s => bindR (f s) fun d s1 => bindR (g s1) fun w s2 => boolR (ownK c0 2 m s2 [w, d] (instF c0 s2.ce w))
section
variable {X : Cx} {cl : Cl} {e : Ent} {W : WX} {a b : Expr} {f g : DE} {c0 k : Nat} {m : Fn} {fa : Addr} {fd : FuncData} {ps : List Str}
theorem boolR_w {F : Hp} {ca : List Addr} {σ : L2.St} {Q : VK} {r : R} (q : rdK X.K cl e W σ F ca Q (boolR r)) : rdK X.K cl e W σ F ca (fun v H => ∃ t : Bool, v = .bl t ∧ Q v H) r := by
  cases r with
  | ok d s =>
    cases d with
    | bl t =>
      intro v F' H' ca' b x p iv
      have z := q v F' H' ca' b x p iv
      cases iv
      exact ⟨t, rfl, z⟩
    | _ => exact False.elim q
  | er xc s => exact q
  | _ => exact False.elim q
theorem p_inO (Fo : FnOk X.prog X.w X.K X.mg X.base (L2.CX X.prog X.w) k fa fd ps (spD X.K cl 2 m)) (hr : Room k X.A) (hb : Binds X.K fd ps []) (tk : Takes X W)
    (hs : PySem.W.findIn X.K (.ref (cl c0)) "__contains__" = some (some (.ref fa))) (hf : PySem.W.isFn X.K (.ref fa) = true)
    (ha : PEd X cl e W a f) (hbb : PEd X cl e W b g) : PC X .In a b (rd X.K cl e W (dInO c0 m f g)) := by
  refine ⟨fun pins s σ H Q I h => ?_⟩
  obtain ⟨F, ca, s0, b0, q⟩ := h
  refine thn (ha.run pins s σ H _ I (use_rd b0 q fun v d s1 F1 H1 ca1 b1 i1 x1 p1 q1 => (⟨d, s1, F1, ca1, b1, i1, q1⟩ : ∃ d s1 F1 ca1, Bx X cl e F1 H1 ca1 σ s1 ∧ Is X.K cl F1 ca1 v d ∧ rdK X.K cl e W σ F1 ca1 Q (bindR (g s1) fun w s2 => boolR (ownK c0 2 m s2 [w, d] (instF c0 s2.ce w)))))) fun u s1 ⟨v, H1, I1, r1, d, t1, F1, ca1, b1, i1, q1⟩ => ?_
  refine thn (hbb.run pins s1 σ H1 _ I1 (use_rd b1 q1 fun v2 w t2 F2 H2 ca2 b2 i2 x2 p2 q2 => (⟨w, t2, F2, ca2, b2, i1.mono x2 p2, i2, q2⟩ : ∃ w t2 F2 ca2, Bx X cl e F2 H2 ca2 σ t2 ∧ Is X.K cl F2 ca2 v d ∧ Is X.K cl F2 ca2 v2 w ∧ rdK X.K cl e W σ F2 ca2 Q (boolR (ownK c0 2 m t2 [w, d] (instF c0 t2.ce w)))))) fun u2 s2 ⟨v2, H2, I2, r2, w, t2, F2, ca2, b2, j1, j2, q2⟩ => ?_
  obtain ⟨hsp, fs, e2⟩ := own_sp (o := instF c0 t2.ce w) b2 (.cons j2 (.one j1)) (boolR_w q2)
  obtain ⟨p, dx, vs, rfl, hH, hi⟩ := inst_ok b2 j2 e2
  obtain rfl : u2 = Value.ref p := r2
  obtain ⟨mA, J, _⟩ := ins_get I2.hok hH
  obtain ⟨od, J, _⟩ := J.look
  obtain ⟨mm, hF⟩ := I2.fr
  refine PySem.W.in_K hF I2.ok.mod.kin J hs hf (thn (run_fnS (E := WE W) (vs := [.ref p, v]) Fo hr hb (passAt tk σ) I2 (.cons rfl (.cons r1 .nil)) hsp) fun u3 s3 z => ?_)
  obtain ⟨v3, H3, I3, r3, t, rfl, q3⟩ := z
  obtain rfl : u3 = Value.bool t := r3
  exact wpAny_truthy_bool ⟨.bl t, H3, I3, rfl, q3⟩
theorem c_inO {pos : Pos} (h1 : behindInMarks .In b = false) (hh : PC X .In a b (rd X.K cl e W f)) : PTd X cl e W (.Compare a [.In] [b] pos) (bTest f) := pt_w (pt_cmp hh h1) fun _ _ _ q => rd_test q
theorem e_inO {pos : Pos} (h1 : behindInMarks .In b = false) (hh : PC X .In a b (rd X.K cl e W f)) : PEd X cl e W (.Compare a [.In] [b] pos) f := pe_cmp hh h1
end
end Dv

set_option maxRecDepth 100000
set_option maxHeartbeats 4000000
/-! repr of data; promises of defs that are run where no repr is under way -/
namespace Dv
open PySem PySem.Spec PyProof.Rows L2

/-! ### data with cells in it -/
section
variable (c : Nat → Option PyData)
mutual
def toPg : D → Option PyData
  | .non => some .none
  | .bl b => some (.bool b)
  | .int i => some (.int i)
  | .str s => some (.str s)
  | .lst xs => (toPgs xs).map .list
  | .ro xs => (toPgs xs).map .list
  | .tup xs => (toPgs xs).map .tuple
  | .obj _ _ => none
  | .rf j => c j
  | .xc _ _ => none
def toPgs : List D → Option (List PyData)
  | [] => some []
  | d :: ds => match toPg d, toPgs ds with
    | some p, some ps => some (p :: ps)
    | _, _ => none
end
end
def cellN (ce : List Cell) (c : Nat → Option PyData) : Nat → Option PyData := fun j => match cellL ce[j]? with
  | some xs => (toPgs c xs).map .list
  | none => none
def noCell : Nat → Option PyData := fun _ => none
def toP3 (ce : List Cell) : D → Option PyData := toPg (cellN ce (cellN ce (cellN ce noCell)))
section
variable {K : PySem.W.Frag} {cl : Cl} {F H : Hp} {ca : List Addr} {c : Nat → Option PyData}
mutual
theorem toPg_ok (x : Ex F H) (hc : ∀ j v p, Is K cl F ca v (.rf j) → c j = some p → Dp K H v p) : ∀ {v : V} {d : D} {p : PyData}, Is K cl F ca v d → toPg c d = some p → Dp K H v p
  | _, .non, _, .non, q => by
    cases q
    exact .non
  | _, .bl _, _, .bl b, q => by
    cases q
    exact .bl b
  | _, .int _, _, .int b, q => by
    cases q
    exact .int b
  | _, .str _, _, .str b, q => by
    cases q
    exact .str b
  | _, .lst xs, _, .lst h l, q => by
    have q' : (toPgs c xs).map PyData.list = some _ := q
    obtain ⟨ps, e, rfl⟩ := Option.map_eq_some_iff.mp q'
    exact .lst (SqL.of (x _ _ h)) (toPgs_ok x hc l e)
  | _, .ro xs, _, .ro h l, q => by
    have q' : (toPgs c xs).map PyData.list = some _ := q
    obtain ⟨ps, e, rfl⟩ := Option.map_eq_some_iff.mp q'
    exact .lst (ex_l x h) (toPgs_ok x hc l e)
  | _, .tup xs, _, .tup h l, q => by
    have q' : (toPgs c xs).map PyData.tuple = some _ := q
    obtain ⟨ps, e, rfl⟩ := Option.map_eq_some_iff.mp q'
    exact .tup (ex_t x h) (toPgs_ok x hc l e)
  | _, .rf j, _, h, q => hc j _ _ h q
  | _, .xc _ _, _, _, q => by cases q
theorem toPgs_ok (x : Ex F H) (hc : ∀ j v p, Is K cl F ca v (.rf j) → c j = some p → Dp K H v p) : ∀ {v : List V} {d : List D} {p : List PyData}, IsL K cl F ca v d → toPgs c d = some p → DpAll K H v p
  | _, [], _, .nil, q => by
    cases q
    exact .nil
  | _, d :: ds, _, .cons h l, q => by
    have q' : (match toPg c d, toPgs c ds with
      | some p, some ps => some (p :: ps)
      | _, _ => none) = some _ := q
    cases e1 : toPg c d with
    | none =>
      rw [e1] at q'
      cases q'
    | some p =>
      rw [e1] at q'
      cases e2 : toPgs c ds with
      | none =>
        rw [e2] at q'
        cases q'
      | some ps =>
        rw [e2] at q'
        cases q'
        exact .cons (toPg_ok x hc h e1) (toPgs_ok x hc l e2)
end
end
section
variable {K : PySem.W.Frag} {cl : Cl} {e : Ent} {F H : Hp} {ca : List Addr} {σ : L2.St} {s : S} {c : Nat → Option PyData}
theorem cellN_ok (b : B K cl e F H ca σ s) (hc : ∀ j v p, Is K cl F ca v (.rf j) → c j = some p → Dp K H v p) : ∀ j v p, Is K cl F ca v (.rf j) → cellN s.ce c j = some p → Dp K H v p := by
  intro j v p i q
  unfold cellN at q
  cases e1 : cellL s.ce[j]? with
  | none =>
    rw [e1] at q
    cases q
  | some xs =>
    rw [e1] at q
    have q' : (toPgs c xs).map PyData.list = some p := q
    obtain ⟨ps, e2, rfl⟩ := Option.map_eq_some_iff.mp q'
    obtain ⟨a, vs, rfl, hl, hi⟩ := look_ok b i (xs := xs) e1
    exact .lst hl (toPgs_ok b.fh hc hi e2)
theorem toP3_ok {v : V} {d : D} {p : PyData} (b : B K cl e F H ca σ s) (h : Is K cl F ca v d) (q : toP3 s.ce d = some p) : Dp K H v p :=
  toPg_ok b.fh (cellN_ok b (cellN_ok b (cellN_ok b fun _ _ _ _ z => by cases z))) h q
end

/-! ### repr -/
/-- data whose repr is asked for -/
def rpOk (p : PyData) : Prop := p.showable = true ∧ p.hasDict = false ∧ p.depth ≤ 50 ∧ p.shown.length ≤ 1000000
instance (p : PyData) : Decidable (rpOk p) := by unfold rpOk; infer_instance
def rRepr (K : PySem.W.Frag) : List V → Hp → VK → Prop := fun xs H Q => ∃ v p, xs = [v] ∧ Dp K H v p ∧ rpOk p ∧ Q (.str p.shown) H
def reprK : Option PyData → Po
  | some p => if rpOk p then .v (.str p.shown) else .no
  | none => .no
def reprD (ce : List Cell) (d : D) : Po := reprK (toP3 ce d)
section
variable {X : Cx} {cl : Cl} {e : Ent}
theorem cr_repr (hg : X.A.guards = some []) (hu : X.A.units + 100 < cLine) : CallR X (.builtin "repr") (rRepr X.K) := by
  intro pins s σ H xs us Q I r h
  obtain ⟨v, p, rfl, hp, ⟨o1, o2, o3, o4⟩, q⟩ := h
  cases r with
  | cons r1 rn =>
    cases rn
    have hz : p.shown.length ≤ sizeLine := Nat.le_trans o4 (by decide)
    obtain ⟨as, rd⟩ := Dp.reads I p v _ hp r1
    cases hp with
    | non =>
      cases (show _ = Value.none from r1)
      exact PySem.P.repr_of_none ⟨.str _, H, I.tok _, ⟨_, rfl⟩, by rw [PyData.shown_none] at q; exact q⟩
    | bl b =>
      cases (show _ = Value.bool b from r1)
      exact PySem.P.repr_of_bool ⟨.str _, H, I.tok _, ⟨_, rfl⟩, by rw [PyData.shown_bool] at q; exact q⟩
    | int i =>
      obtain ⟨t, rfl⟩ := r1
      exact PySem.P.repr_of_int (by simpa [PyData.showable] using o1) ⟨.str _, H, I.tok _, ⟨_, rfl⟩, by rw [PyData.shown_int] at q; exact q⟩
    | str x =>
      obtain ⟨t, rfl⟩ := r1
      rw [PyData.shown_str] at hz q
      exact PySem.P.repr_of_str ⟨.str _, H, I.tok _, ⟨_, rfl⟩, q⟩ hz
    | lst hs ha =>
      cases r1
      exact repr_of_reads' rd o1 (PyData.noDict_hsm o2) hg (by omega) (fun _ _ z => z) (fun h' u tk hk => ⟨.str _, H, I.kept hk, ⟨_, rfl⟩, q⟩) hz
    | tup hs ha =>
      cases r1
      exact repr_of_reads' rd o1 (PyData.noDict_hsm o2) hg (by omega) (fun _ _ z => z) (fun h' u tk hk => ⟨.str _, H, I.kept hk, ⟨_, rfl⟩, q⟩) hz
theorem bd_repr : BiD X cl e (rRepr X.K) (b1 reprD) := bd1 fun F H ca σ s v d b i => by
  unfold reprD
  cases e1 : toP3 s.ce d with
  | none => trivial
  | some p => exact .ite fun hz => .val b (.str _) fun Q q => ⟨v, p, rfl, toP3_ok b i e1, hz, q⟩
end
end Dv

set_option maxRecDepth 100000
set_option maxHeartbeats 4000000
/-! defs that are run where no repr is under way -/
namespace Dv
open PySem PySem.Spec PyProof.Rows L2

/-- as FnOk, but asked for only where no guard is up -/
structure FnG (P : Program) (w : World) (K : PySem.W.Frag) (mg : Str → Option Value) (base : Heap) (CX : CXT) (k : Nat) (f : Addr) (fd : FuncData) (ps : List Str) (sp : Sp) : Prop where
  size : ∀ vs H Q E, sp vs H Q E → vs.length = ps.length
  does : ∀ (A : Around) (outer : List Env) (s : Shared) (H : Hp) (args : Args) (us : List Value) (vs : List V) (Q : VK) (E : XK), A.guards = some [] → Room k A → Env0 P w K mg base A outer s H →
    BindsTo s fd args (ps.zip us) → Vals vs us → sp vs H Q E → codeAny (model P w) A (.call (.ref f) args) (CR CX outer P w H s Q E) s
theorem FnG.of {P : Program} {w : World} {K : PySem.W.Frag} {mg : Str → Option Value} {base : Heap} {CX : CXT} {k : Nat} {f : Addr} {fd : FuncData} {ps : List Str} {sp : Sp} (o : FnOk P w K mg base CX k f fd ps sp) : FnG P w K mg base CX k f fd ps sp :=
  ⟨o.len, fun A outer s H args us vs Q E _ => o.run A outer s H args us vs Q E⟩
theorem FnG.weak {P : Program} {w : World} {K : PySem.W.Frag} {mg : Str → Option Value} {base : Heap} {CX : CXT} {k : Nat} {f : Addr} {fd : FuncData} {ps : List Str} {sp sp' : Sp} (o : FnG P w K mg base CX k f fd ps sp) (h : ∀ vs H Q E, sp' vs H Q E → sp vs H Q E) : FnG P w K mg base CX k f fd ps sp' :=
  ⟨fun vs H Q E z => o.size vs H Q E (h _ _ _ _ z), fun A outer s H args us vs Q E hg hr e0 hb hv z => o.does A outer s H args us vs Q E hg hr e0 hb hv (h _ _ _ _ z)⟩

section
variable {P : Program} {w : World} {K : PySem.W.Frag} {mg : Str → Option Value} {base : Heap} {cl : Cl}
/-- a def by the reading of its body, chosen at each entry -/
theorem FnG.make {x qual : Str} {st : Stmt} {f : Addr} {fd : FuncData} {N ps : List Str} {k : Nat} {sp : Sp} (Fu : L2.Fun K x qual st f fd) (Sc : FnScope N ps (defScope st)) (hlen : ∀ vs H Q E, sp vs H Q E → vs.length = ps.length)
    (body : ∀ (cdv : Value) (A : Around) (outer : List Env) (s : Shared) (H : Hp) (vs : List V) (Q : VK) (E : XK), A.guards = some [] → Room k (A.deeper (envOfC qual (defScope st) s.heap.objs.size f cdv)) → sp vs H Q E →
      ∃ t, PSs (cxOf (L2.CX P w) P w K mg base N qual (defScope st) f cdv A outer s H E) (defBody st) t ∧ t { nx := fun _ H' => Q .non H', rt := Q } (start N vs) H) : FnG P w K mg base (L2.CX P w) (k + 1) f fd ps sp := by
  obtain ⟨oc, od, kV, doc, pm, an, cdv, ct, osl, rfl, lk, hcd⟩ := Fu.ex
  refine ⟨hlen, ?_⟩
  intro A outer s H args us vs Q E hg hr e0 hb hv hsp
  have inK : K.In s.heap := e0.mod.kin.keeps (fun b o z => (e0.bs b o z).1)
  have unlim : s.heap.NoLimit := e0.mod.nolimit.keeps (fun b o z => (e0.bs b o z).1)
  have kinds : ∀ y ∈ ps.zip us, (defScope st).names.lookup y.1 = some .local ∨ ((defScope st).names.lookup y.1 = some .cell ∧ ((cellsFrom (s.heap.objs.size + 1) (defScope st).names []).lookup y.1).isSome = true) := by
    intro y hy
    obtain ⟨n, v⟩ := y
    cases Sc.par n (List.of_mem_zip hy).1 with
    | inl z => exact Or.inl z
    | inr z => exact Or.inr ⟨z, PySem.W.cellsFrom_some _ _ _ (Or.inl z)⟩
  apply codeAny_call_function hr.depth (inK _ _ lk) rfl Sc.co Sc.gen rfl (PySem.W.codeRec_of inK hcd)
  apply hb
  apply wpAny_newFunctionEnv_cells Sc.kind kinds
  intro env henv s1 inc
  subst henv
  refine ⟨unlim.keeps inc.toInCall.keep, ?_⟩
  apply codeAny_func
  obtain ⟨t, pt, ht⟩ := body cdv A outer s H vs Q E hg (hr.deeper _) hsp
  have J0 : Inv (cxOf (L2.CX P w) P w K mg base N qual (defScope st) f cdv A outer s H E) [] (start N vs) H s1 := inv_start Sc hr.hd e0 (hlen _ _ _ _ hsp) hv inc
  refine wpAny_mono (pt.run [] s1 (start N vs) H _ J0 ht) ?_ (fun _ _ z => z)
  intro fl s' z
  cases fl with
  | ret u =>
    obtain ⟨v, σ', H', J, rv, q⟩ := z
    exact ⟨v, H', J.os, J.bare, J.base, J.hok, rv, q⟩
  | next =>
    obtain ⟨σ', H', J, q⟩ := z
    exact ⟨V.non, H', J.os, J.bare, J.base, J.hok, rfl, q⟩
  | brk =>
    obtain ⟨_, _, _, q⟩ := z
    exact q.elim
  | cont =>
    obtain ⟨_, _, _, q⟩ := z
    exact q.elim
/-- a def by its body and its function -/
theorem def_g {x qual : Str} {st : Stmt} {f : Addr} {fd : FuncData} {N ps : List Str} {k n : Nat} {m : Fn} {b : DS} (Fu : L2.Fun K x qual st f fd) (Sc : FnScope N ps (defScope st)) (hn : ps.length = n) (hN : n ≤ N.length) (hd : Does N.length b m)
    (hb : ∀ (cdv : Value) (A : Around) (outer : List Env) (s : Shared) (H : Hp) (E : XK) (e : Ent), (cxOf (L2.CX P w) P w K mg base N qual (defScope st) f cdv A outer s H E).A.guards = some [] → Room k (A.deeper (envOfC qual (defScope st) s.heap.objs.size f cdv)) →
      Takes (cxOf (L2.CX P w) P w K mg base N qual (defScope st) f cdv A outer s H E) (fun cls d _ H => E cls d H) →
      PSsd (cxOf (L2.CX P w) P w K mg base N qual (defScope st) f cdv A outer s H E) cl e (fun cls d _ H => E cls d H) (defBody st) b) : FnG P w K mg base (L2.CX P w) (k + 1) f fd ps (spD K cl n m) := by
  refine FnG.make Fu Sc (fun vs H Q E h => h.1.trans hn.symm) fun cdv A outer s H vs Q E hg hr h => ?_
  obtain ⟨e, q⟩ := body_ok (X := cxOf (L2.CX P w) P w K mg base N qual (defScope st) f cdv A outer s H E) hN hd h
  exact ⟨_, hb cdv A outer s H E e hg hr (takes_of rfl rfl rfl rfl), q⟩
end

/-! ### calls -/
section
variable {X : Cx} {cl : Cl} {e : Ent} {W : WX} {ga : DA}
theorem g_run {CX : CXT} {k : Nat} {f : Addr} {fd : FuncData} {ps : List Str} {sp : Sp} {E : L2.St → XK} {pins : List (Addr × Obj)} {σ : L2.St} {H : Hp} {s : Shared} {Q : VK} {us : List Value} {vs : List V} (Fo : FnG X.prog X.w X.K X.mg X.base CX k f fd ps sp) (hg : X.A.guards = some [])
    (hr : Room k X.A) (hb : Binds X.K fd ps []) (hx : PassesAt CX X σ (E σ)) (I : Inv X pins σ H s) (r : Vals vs us) (h : sp vs H Q (E σ)) : wpAny (model X.prog X.w) X.A (call (.ref f) us) (EP X pins σ Q) X.xe s := by
  have n1 : us.length = ps.length := r.length.symm.trans (Fo.size _ _ _ _ h)
  have b := hb s us I.kIn (by rw [List.append_nil]; exact n1)
  rw [List.append_nil] at b
  apply wpAny_call
  apply codeAny_mono (Fo.does X.A X.stack s H ⟨us, []⟩ us vs Q (E σ) hg hr I.env0 b r h)
  intro res s' z
  cases res with
  | error x => exact hx pins H s x s' I z
  | ok fl => cases fl with
    | ret u => exact I.after z
    | next => exact z.elim
    | brk => exact z.elim
    | cont => exact z.elim
theorem g_call {CX : CXT} {k : Nat} {f : Addr} {fd : FuncData} {ps : List Str} {sp : Sp} {E : L2.St → XK} {x : Str} {p pos : Pos} {a : Expr} {es : List Expr} {t : TA} (Fo : FnG X.prog X.w X.K X.mg X.base CX k f fd ps sp) (hgd : X.A.guards = some []) (hr : Room k X.A) (hg : Gl X x) (hm : X.mg x = some (.ref f))
    (hk : PySem.W.keepIn X.K (.ref f) = true) (hb : Binds X.K fd ps []) (hx : ∀ σ, PassesAt CX X σ (E σ)) (ha : PA X (a :: es) t) (hdb : (x == ("__debug__" : Str)) = false) (he : starEach (a :: es) X.env = (false, eval a X.env) :: starEach es X.env)
    (hpl : (backTo pos (starEach es X.env)).any (·.1) = false) : PE X (.Call (.Name x p) (a :: es) [] pos) (tCallS sp E t) := by
  constructor
  intro pins s σ H Q I h
  apply wpAny_Call_Name_kw
  apply ld_glob I hg hm ?_ hdb
  exact PySem.W.callWith_K (h₀ := X.base) I.ok.mod.kin hk (thn (ha.run pos pins s σ H _ I h) fun us s1 z => by
    obtain ⟨vs, H1, I1, r, q⟩ := z
    exact ⟨I1.kIn, g_run Fo hgd hr hb (hx σ) I1 r q⟩) he hpl
theorem d_callG {n : Nat} {m : Fn} {k : Nat} {f : Addr} {fd : FuncData} {ps : List Str} {x : Str} {p pos : Pos} {a : Expr} {es : List Expr} (Fo : FnG X.prog X.w X.K X.mg X.base (L2.CX X.prog X.w) k f fd ps (spD X.K cl n m)) (hgd : X.A.guards = some []) (hr : Room k X.A) (hg : Gl X x) (hm : X.mg x = some (.ref f)) (hk : PySem.W.keepIn X.K (.ref f) = true)
    (hb : Binds X.K fd ps []) (tk : Takes X W) (ha : PAd X cl e W (a :: es) ga) (hdb : (x == ("__debug__" : Str)) = false := by decide) (he : starEach (a :: es) X.env = (false, eval a X.env) :: starEach es X.env := by rfl) (hpl : (backTo pos (starEach es X.env)).any (·.1) = false := by rfl) :
    PEd X cl e W (.Call (.Name x p) (a :: es) [] pos) (dCall n m ga) :=
  pe_w (g_call Fo hgd hr hg hm hk hb (fun σ => passAt tk σ) ha hdb he hpl) fun _ _ _ q => rd_call q
end
end Dv

set_option maxRecDepth 100000
set_option maxHeartbeats 4000000
/-! the head's goal from a law that is promised where no repr is under way -/
namespace Dv
open PySem PySem.Spec PyProof.Rows L2

section
variable {P : Program} {w : World} {K : PySem.W.Frag} {mg mb : Str → Option Value} {CX : CXT} {k : Nat} {fa a : Addr} {fd : FuncData} {x : Str} {sp : Sp} {s₁ : Shared} {vs : List Value} {ns : List Int}
/-- over an abstract heap that tracks nothing but the script -/
theorem g_core (inK : K.In s₁.heap) (gns : s₁.heap.Ns mainGlobals mg) (bns : s₁.heap.Ns builtinsNs mb) (bb : ∀ y : Str, y ≠ "__name__" → mb y = bootBuiltins y) (lim : s₁.heap.NoLimit) (gens : s₁.gens = #[])
    (ha : s₁.heap.get? a = some { cls := .type "list", data := .seq vs.toArray }) (rm : Room k callerA)
    (F : ∀ base : Heap, K.In base → base.Ns mainGlobals mg → FnG P w K mg base CX k fa fd [x] sp) (bind : ∀ (s : Shared) (u : Value), BindsTo s fd ⟨[u], []⟩ [(x, u)])
    (cx : ∀ H e s', CX [] H s₁ (fun _ _ _ => False) e s' → False)
    {H : Hp} (only : Only H) (pr : sp [.ref a] H (fun v _ => v = .bl true) fun _ _ _ => False) (hok : HOk P w H s₁.heap) (at_a : ∀ b, H b ≠ none → b = a) (notK : H a ≠ none → K.lookup a = none) :
    codeAny (model P w) callerA (.call (.ref fa) ⟨[.ref a], []⟩) (fun r s' => r = .ok (.ret (.bool true)) ∧ OldK s₁.heap s'.heap ∧ s'.os = s₁.os ∧ AllBare s'.gens) s₁ := by
  have free_of : ∀ {b : Addr}, (∀ u, H b = some u → False) → H b = none := by
    intro b z
    cases q : H b with
    | none => rfl
    | some u => exact (z u q).elim
  have keepNs : ∀ {b : Addr} {m : Str → Option Value}, s₁.heap.Ns b m → (hidT s₁.heap H).Ns b m := by
    intro b m z
    obtain ⟨o, es, ep, g, d, r⟩ := z
    refine ⟨o, es, ep, hidT_get g (free_of fun u q => ?_), d, r⟩
    have eb : b = a := at_a b (by rw [q]; exact Option.some_ne_none u)
    rw [eb, ha] at g
    cases g
    have d2 : Data.seq vs.toArray _ = Data.dict es ep := d
    cases d2
  have KB : K.In (hidT s₁.heap H) := by
    intro b o g
    refine hidT_get (inK b o g) (free_of fun u q => ?_)
    have eb : b = a := at_a b (by rw [q]; exact Option.some_ne_none u)
    have nk := notK (by rw [← eb, q]; exact Option.some_ne_none u)
    rw [eb, nk] at g
    cases g
  obtain ⟨mc, l1, l2⟩ := lim
  have M : Mod K mg (hidT s₁.heap H) := ⟨KB, keepNs gns, ⟨mb, keepNs bns, bb⟩, ⟨mc, keepNs l1, l2⟩⟩
  have E0 : Env0 P w K mg (hidT s₁.heap H) callerA [] s₁ H := ⟨rfl, M, fun b o g => of_hidT g, Nat.le_of_eq (hidT_size _ _), trivial, fun b z => absurd (show b ∈ ([] : List Addr) from z) (List.not_mem_nil), hok, .of_eq gens⟩
  refine codeAny_mono ((F _ KB (keepNs gns)).does callerA [] s₁ H ⟨[.ref a], []⟩ [.ref a] [.ref a] _ _ rfl rm E0 (bind s₁ (.ref a)) (.cons rfl .nil) pr) ?_
  intro res s' z
  cases res with
  | error y => exact (cx H y s' z).elim
  | ok fl => cases fl with
    | next => exact z.elim
    | brk => exact z.elim
    | cont => exact z.elim
    | ret u =>
      obtain ⟨v, H', os, bare, un, hok', rv, e1⟩ := z
      have e2 : v = .bl true := e1
      subst e2
      obtain rfl : u = Value.bool true := rv
      refine ⟨rfl, OldK.of_keep ?_, os, bare⟩
      intro b o g
      cases q : H b with
      | none => exact un.keep b o g q (fun z => absurd (show b ∈ ([] : List Addr) from z) (List.not_mem_nil)) (List.not_mem_nil)
      | some u =>
        cases only b with
        | inl z =>
          rw [q] at z
          cases z
        | inr z =>
          obtain ⟨ob, xs, z⟩ := z
          have y1 := (hok b _ z).1
          have y2 := (hok' b _ (un.frzs b ob _ z)).1
          rw [g] at y1
          cases y1
          exact y2
theorem g_law (inK : K.In s₁.heap) (gns : s₁.heap.Ns mainGlobals mg) (bns : s₁.heap.Ns builtinsNs mb) (bb : ∀ y : Str, y ≠ "__name__" → mb y = bootBuiltins y) (lim : s₁.heap.NoLimit) (gens : s₁.gens = #[])
    (ha : s₁.heap.get? a = some { cls := .type "list", data := .seq vs.toArray }) (hin : IntsAre vs ns) (size : ns.length ≤ sizeLine) (rm : Room k callerA)
    (F : ∀ base : Heap, K.In base → base.Ns mainGlobals mg → FnG P w K mg base CX k fa fd [x] sp) (bind : ∀ (s : Shared) (u : Value), BindsTo s fd ⟨[u], []⟩ [(x, u)])
    (pr : ∀ H : Hp, Only H → SqL K H a (ns.map V.int) → sp [.ref a] H (fun v _ => v = .bl true) fun _ _ _ => False)
    (cx : ∀ H e s', CX [] H s₁ (fun _ _ _ => False) e s' → False) :
    codeAny (model P w) callerA (.call (.ref fa) ⟨[.ref a], []⟩) (fun r s' => r = .ok (.ret (.bool true)) ∧ OldK s₁.heap s'.heap ∧ s'.os = s₁.os ∧ AllBare s'.gens) s₁ := by
  have rv := vals_ints hin
  cases hk : K.lookup a with
  | some o =>
    have g := inK a o hk
    rw [ha] at g
    cases g
    have on : Only fun _ => none := fun _ => Or.inl rfl
    refine g_core inK gns bns bb lim gens ha rm F bind cx on (pr _ on (.inr ⟨_, vs.toArray, _, hk, rfl, rfl, rfl, ?_, by simpa using rv⟩)) (fun b u z => ?_) (fun b z => absurd rfl z) (fun z => absurd rfl z)
    · rw [List.size_toArray, hin.length]
      exact size
    · have z2 : (none : Option HO) = some u := z
      cases z2
  | none =>
    have here : ∀ b, b = a → (if b = a then some (HO.frz { cls := .type "list", data := .seq vs.toArray } (.lst (ns.map V.int))) else none) = some (HO.frz { cls := .type "list", data := .seq vs.toArray } (.lst (ns.map V.int))) := fun b z => if_pos z
    have there : ∀ b, b ≠ a → (if b = a then some (HO.frz { cls := .type "list", data := .seq vs.toArray } (.lst (ns.map V.int))) else none) = none := fun b z => if_neg z
    have on : Only fun b => if b = a then some (.frz { cls := .type "list", data := .seq vs.toArray } (.lst (ns.map V.int))) else none := fun b => by
      by_cases z : b = a
      · exact Or.inr ⟨_, _, here b z⟩
      · exact Or.inl (there b z)
    refine g_core inK gns bns bb lim gens ha rm F bind cx on (pr _ on (.inl (.inr ⟨_, here a rfl⟩))) (fun b u z => ?_) (fun b z => ?_) (fun _ => hk)
    · by_cases y : b = a
      · cases (here b y).symm.trans z
        subst y
        exact ⟨ha, by rw [List.length_map]; exact size, vs, _, rv, ha⟩
      · cases (there b y).symm.trans z
    · by_cases y : b = a
      · exact y
      · exact absurd (there b y) z
end
/-- what the head leaves to be shown -/
theorem walk_g {l : PySem.W.OpenLaw} {n k : Nat} {q : Program} {loose : List Str} {XP : (Str → Option Value) → Heap → Prop} {YP : World → Heap → Prop} {d : DefRec} {K : Params → PySem.W.Frag} {CX : World → CXT} {sp : World → Sp} {x : Str}
    (most : l.most = some n) (n2 : n ≤ sizeLine) (nodef : d.params.defaults = []) (rm : Room k callerA) (hY : ∀ (w : World) (h : Heap), YP w h → (K w.params).In h)
    (F : ∀ (w : World) (mg : Str → Option Value) (fa : Addr) (h : Heap), (K w.params).In h → h.Ns mainGlobals mg → mg d.name = some (.ref fa) → ∃ fd : FuncData, (∀ (s : Shared) (u : Value), BindsTo s fd ⟨[u], []⟩ [(x, u)]) ∧
      ∀ base : Heap, (K w.params).In base → base.Ns mainGlobals mg → FnG l.prog w (K w.params) mg base (CX w) k fa fd [x] (sp w))
    (pr : ∀ (w : World) (H : Hp) (a : Addr) (ns : List Int), ns.length ≤ n → Only H → SqL (K w.params) H a (ns.map V.int) → sp w [.ref a] H (fun v _ => v = .bl true) fun _ _ _ => False)
    (cx : ∀ (w : World) (H : Hp) (s : Shared) (e : Value) (s' : Shared), CX w [] H s (fun _ _ _ => False) e s' → False) : PySem.W.WalkO q loose XP YP l.row.toRowW d [] (fun f vs => PySem.call f vs) := by
  apply Att.attach_call most nodef
  intro w s₀ s₁ mg mb fa o pm cd doc a vs ns G Y ho hd hcd hmg hobj hints hlen hg
  have inK := hY w _ Y
  obtain ⟨fd, hb, hF⟩ := F w mg fa _ inK G.T.g hmg
  exact g_law inK G.T.g G.T.b G.T.builtins G.T.nolimit hg hobj hints (Nat.le_trans hlen n2) rm hF hb (fun H hO hS => pr w H a ns hlen hO hS) (fun H e s' => cx w H s₁ e s')
end Dv

set_option maxRecDepth 100000
set_option maxHeartbeats 4000000
/-! xs.extend(ys), repr(x) -/
namespace Dv
open PySem PySem.Spec PyProof.Rows L2
section
variable {X : Cx} {cl : Cl} {e : Ent} {W : WX} {ga : DA} {a : Expr} {es : List Expr} {p pos : Pos}
def extK (j : Nat) (ys : List D) : Option (List D) → Mo
  | some xs => if xs.length + ys.length ≤ 100000 then .w j (.lst (xs ++ ys)) .non else .no
  | none => .no
def mExt (ce : List Cell) : D → List D → Mo
  | .rf j, [.lst ys] => extK j ys (cellL ce[j]?)
  | _, _ => .no
theorem md_ext : MtD X cl e rExtend mExt := fun F H ca σ s v d vs ds b i is => by
  cases d with
  | rf j =>
    cases is with
    | nil => trivial
    | cons i1 t =>
      cases t with
      | cons _ _ => cases i1 <;> trivial
      | nil =>
        cases i1 with
        | @lst p ws ys hF hi2 =>
          show MoK X cl e F H ca σ s _ (extK j ys (cellL s.ce[j]?))
          cases e1 : cellL s.ce[j]? with
          | none => trivial
          | some xs =>
            obtain ⟨q, zs, rfl, ha, hH, hi, hF0⟩ := cell_ok b i (cellL_eq e1)
            refine .ite fun hz => .wr b ha hF0 (hi.app hi2) .non fun Q r => ⟨q, p, zs, ws, rfl, rfl, hH, b.fh _ _ hF, ?_, r⟩
            rw [hi.length, hi2.length]
            exact Nat.le_trans hz (by decide)
        | _ => trivial
  | _ => cases is <;> trivial
theorem e_repr (hgd : X.A.guards = some []) (hu : X.A.units + 100 < cLine) (hg : Gl X "repr") (hz : X.mg "repr" = none) (ha : PAd X cl e W (a :: es) ga) (hst : starEach (a :: es) X.env = (false, eval a X.env) :: starEach es X.env := by rfl)
    (hpl : (backTo pos (starEach es X.env)).any (·.1) = false := by rfl) : PEd X cl e W (.Call (.Name "repr" p) (a :: es) [] pos) (dBi (b1 reprD) ga) :=
  pe_w (pe_callB (cr_repr hgd hu) hg hz (by decide +kernel) ha (by decide) (by decide) hst hpl) fun _ _ _ q => rd_bi bd_repr q
theorem room100 {k : Nat} {A : Around} (r : Room k A) : A.units + 100 < cLine := by
  have := r.un
  omega
end
end Dv

set_option maxRecDepth 100000
set_option maxHeartbeats 4000000
/-! sorted(d), d a dict of ints, any number of keys -/
namespace Dv
open PySem PySem.Spec PyProof.Rows L2
def rSrtD : List V → Hp → VK → Prop := fun xs H Q => ∃ (a : Addr) (kvs : List (Key × V)) (ks : List Int), xs = [.ref a] ∧ Rd H a (.dK kvs) ∧ kvs.map (·.1) = ks.map Sum.inl ∧ ks.length ≤ 1000000 ∧
  ∀ (p : Addr), H p = none → Q (.ref p) (upd H p (.lst ((isortI ks).map V.int)))
section
variable {X : Cx} {cl : Cl} {e : Ent}
theorem cr_srtD (hc : X.calm = true) : CallR X (.builtin "sorted") rSrtD := by
  intro pins s σ H xs us Q I r q
  obtain ⟨a, kvs, ks, rfl, hd, hks, hz, q⟩ := q
  obtain ⟨u, rfl, ru⟩ := vals1 r
  cases ru
  obtain ⟨_, lo, vs, rel, dd⟩ := dk_rd I.hok hd
  obtain ⟨ep, hat⟩ := dd.dictAt
  have keys : vs.map (·.1) = ks.map Sum.inl := rel.keys.symm.trans hks
  have n1 : vs.length = ks.length := by simpa using congrArg List.length keys
  have n2 : vs.length ≤ sizeLine := n1 ▸ Nat.le_trans hz (by decide)
  apply Calls.call_function_entry PyProof.Rows.kind_sorted PyProof.Rows.plain_sorted PyProof.Rows.entry_sorted (PyProof.Rows.args_sorted1 _)
  unfold Builtin.«sorted»
  apply wpAny_bind (m := checkCount "sorted" 1 1 _)
  apply wpAny_pure
  apply wpAny_bind
  apply PySem.W.kdu_collect (A := X.A.in1) (PySem.W.kdl_dict (knd := mixKind X.prog X.w) (kvs := vs) (ep := ep) lo) (I.ok.hd hc) hat n2
  intro h' tk acc old got
  have n3 : acc.toList.length = ks.length := by rw [Array.length_toList, got.1, n1]
  have hI : IntsAre acc.toList ks := by
    apply ints_each n3
    intro j v ev
    obtain ⟨k, x, e1, e2⟩ := got.2 j v (by rw [← Array.getElem?_toList]; exact ev)
    have e3 : (ks.map (Sum.inl : Int → Key))[j]? = some k := by
      rw [← keys, List.getElem?_map, e1] <;> rfl
    rw [List.getElem?_map] at e3
    cases e4 : ks[j]? with
    | none =>
      rw [e4] at e3
      cases e3
    | some y =>
      rw [e4] at e3
      cases Option.some.inj e3
      rcases keyIs_shape (show keyIs (Sum.inl y) v = true from e2) with ⟨i, t, ek, ev⟩ | ⟨z, t, ek, ev⟩
      · cases ek
        exact ⟨y, t, rfl, ev⟩
      · cases ek
  have J : Inv X pins σ H { s with heap := h', toks := tk } := I.kept old
  have n4 : acc.toList.length ≤ sizeLine := by
    rw [n3]
    exact Nat.le_trans hz (by decide)
  apply wpAny_bind
  apply wpAny_newList ?_ n4
  have new : (h'.push (seqObj "list" acc.toList.toArray 0)).get? h'.objs.size = some (seqObj "list" acc.toList.toArray 0) := Heap.get?_push_size _ rfl
  show wpAny _ _ _ _ _ { s with heap := h'.push (seqObj "list" acc.toList.toArray 0), toks := tk }
  apply wpAny_bind
  apply wpAny_holding
  refine wpAny_call_entry PyProof.Rows.slot_list_sort ⟨_, new, rfl⟩ PyProof.Rows.entry_list_sort ?_ (PyProof.Rows.args_list_sort _)
  refine SrtO.list_sort_ord (s := { s with heap := h'.push (seqObj "list" acc.toList.toArray 0), toks := tk }) SrtO.swo_int new n4 (fun h2 => SrtO.ints_sortable hI h2) ?_
  intro out h1 h2
  obtain ⟨k1, k2, k3⟩ := SrtO.ints_out hI h1 h2
  obtain ⟨ep2, gt⟩ := PyProof.Rows.sortedHeap_at (vs := acc.toList) (out := out.toArray) new
  refine ⟨_, rfl, wpAny_pure ⟨_, rfl, .ref h'.objs.size, upd H h'.objs.size (.lst ((out.map SrtO.iv).map V.int)), J.laid (t' := tk) (fun b u eb => ?_) (Nat.le_refl _) ⟨?_, out, ep2, vals_of_ints k1, gt⟩, rfl, ?_⟩⟩
  · have lt : b < h'.objs.size := Heap.lt_size eb
    rw [PyProof.Rows.sortedHeap_old (Nat.ne_of_lt lt) (by rw [size_push']; exact Nat.lt_succ_of_lt lt)]
    exact Heap.get?_push_of_some _ eb
  · rw [List.length_map, k2.length_eq]
    exact Nat.le_trans hz (by decide)
  · rw [sorted_one (k2.trans (isortI_perm ks).symm) k3 (isortI_sorted ks)]
    exact q _ (J.hok.fresh (Nat.le_refl _))
/-- the numbers that are a dict's keys -/
def keysI : List (Key × D) → Option (List Int)
  | [] => some []
  | (.inl i, _) :: r => (keysI r).map (i :: ·)
  | (.inr _, _) :: _ => none
theorem keysI_eq : ∀ {kvs : List (Key × D)} {ks : List Int}, keysI kvs = some ks → kvs.map (·.1) = ks.map Sum.inl
  | [], _, h => by
    cases h
    rfl
  | (.inl i, _) :: r, _, h => by
    have h' : (keysI r).map (i :: ·) = some _ := h
    obtain ⟨l, e1, rfl⟩ := Option.map_eq_some_iff.mp h'
    rw [List.map_cons, keysI_eq e1] <;> rfl
  | (.inr _, _) :: _, _, h => by cases h
theorem isK_keys {K : PySem.W.Frag} {F : Hp} {ca : List Addr} : ∀ {vs : List (Key × V)} {kvs : List (Key × D)}, IsK K cl F ca vs kvs → vs.map (·.1) = kvs.map (·.1)
  | _, _, .nil => rfl
  | _, _, .cons _ t => by rw [List.map_cons, List.map_cons, isK_keys t]
def srtK : Option (List Int) → Po
  | some ks => if ks.length ≤ 100000 then .l ((isortI ks).map .int) else .no
  | none => .no
def srtD (ce : List Cell) : D → Po
  | .rf j => match cellD ce[j]? with
    | some kvs => srtK (keysI kvs)
    | none => .no
  | _ => .no
theorem bd_srtD : BiD X cl e rSrtD (b1 srtD) := bd1 fun F H ca σ s v d b i => by
  cases d with
  | rf j =>
    show PoK X cl e F H ca σ s _ (match cellD s.ce[j]? with
      | some kvs => srtK (keysI kvs)
      | none => .no)
    cases e1 : cellD s.ce[j]? with
    | none => trivial
    | some kvs =>
      show PoK X cl e F H ca σ s _ (srtK (keysI kvs))
      cases e2 : keysI kvs with
      | none => trivial
      | some ks =>
        obtain ⟨a, vs, rfl, ha, hF, hH, hi⟩ := dic_ok b i e1
        refine .ite fun hz => ?_
        exact fun Q q => ⟨a, vs, ks, rfl, .inl hH, (isK_keys hi).trans (keysI_eq e2), by omega, fun p hp => q p _ hp (isL_ints _)⟩
  | _ => cases i <;> trivial
end
section
variable {X : Cx} {cl : Cl} {e : Ent} {W : WX} {ga : DA} {a : Expr} {es : List Expr} {p pos : Pos}
theorem e_srtD (hc : X.calm = true) (hg : Gl X "sorted") (hz : X.mg "sorted" = none) (ha : PAd X cl e W (a :: es) ga) (hst : starEach (a :: es) X.env = (false, eval a X.env) :: starEach es X.env := by rfl)
    (hpl : (backTo pos (starEach es X.env)).any (·.1) = false := by rfl) : PEd X cl e W (.Call (.Name "sorted" p) (a :: es) [] pos) (dBi (b1 srtD) ga) :=
  pe_w (pe_callB (cr_srtD hc) hg hz (by decide +kernel) ha (by decide) (by decide) hst hpl) fun _ _ _ q => rd_bi bd_srtD q
end
end Dv

set_option maxRecDepth 100000
set_option maxHeartbeats 4000000
/-! calls by keywords: f(k = v, ..), o.m(k = v, ..) -/
namespace Dv
open PySem PySem.Spec PyProof.Rows L2
/-- the items at some places -/
def pick {α : Type} (ix : List Nat) (l : List α) : List α := ix.filterMap (l[·]?)
theorem vals_pick {vs : List V} {us : List Value} (r : Vals vs us) : ∀ ix : List Nat, Vals (pick ix vs) (pick ix us)
  | [] => .nil
  | i :: ix => by
    have ih := vals_pick r ix
    unfold pick at ih ⊢
    cases e : vs[i]? with
    | some v =>
      obtain ⟨u, hu, rv⟩ := r.get e
      rw [List.filterMap_cons_some e, List.filterMap_cons_some hu]
      exact .cons rv ih
    | none =>
      have hu : us[i]? = none := by
        have l := r.length
        have n := List.getElem?_eq_none_iff.mp e
        exact List.getElem?_eq_none_iff.mpr (by omega)
      rw [List.filterMap_cons_none e, List.filterMap_cons_none hu]
      exact ih
theorem isL_pick {K : PySem.W.Frag} {cl : Cl} {F : Hp} {ca : List Addr} {vs : List V} {ds : List D} (r : IsL K cl F ca vs ds) : ∀ ix : List Nat, IsL K cl F ca (pick ix vs) (pick ix ds)
  | [] => .nil
  | i :: ix => by
    have ih := isL_pick r ix
    unfold pick at ih ⊢
    cases e : ds[i]? with
    | some d =>
      obtain ⟨v, hv, iv⟩ := r.get e
      rw [List.filterMap_cons_some e, List.filterMap_cons_some hv]
      exact .cons iv ih
    | none =>
      have hv : vs[i]? = none := by
        have l := r.length
        have n := List.getElem?_eq_none_iff.mp e
        exact List.getElem?_eq_none_iff.mpr (by omega)
      rw [List.filterMap_cons_none e, List.filterMap_cons_none hv]
      exact ih
/-- how n0 values and the keywords ks are bound -/
structure KwB (fd : FuncData) (ps : List Str) (n0 : Nat) (ks : List Str) (ix : List Nat) : Prop where
  to : ∀ (s : Shared) (us ws : List Value), us.length = n0 → ws.length = ks.length → BindsTo s fd ⟨us, ks.zip ws⟩ (ps.zip (pick ix (us ++ ws)))
theorem KwB.of {K : PySem.W.Frag} {x qual : Str} {st : Stmt} {f : Addr} {fd : FuncData} {ps ks : List Str} {n0 : Nat} {ix : List Nat} (Fu : L2.Fun K x qual st f fd)
    (h : ∀ (kV doc pm : Value) (an : Option Addr) (cdv ct : Value) (us ws : List Value), us.length = n0 → ws.length = ks.length → bindArgs (PySem.W.fnOf x qual (defArgs st) (defBody st) (defScope st) .none kV doc pm an cdv ct) ⟨us, ks.zip ws⟩ = pure (ps.zip (pick ix (us ++ ws)))) : KwB fd ps n0 ks ix := by
  obtain ⟨oc, od, kV, doc, pm, an, cdv, ct, osl, rfl, lk, hcd⟩ := Fu.ex
  exact ⟨fun s us ws h1 h2 => .of_eq (h kV doc pm an cdv ct us ws h1 h2)⟩
section
variable {X : Cx} {cl : Cl} {e : Ent} {W : WX} {ga : DA}
theorem kw_run {CX : CXT} {k n0 : Nat} {f : Addr} {fd : FuncData} {ps ks : List Str} {ix : List Nat} {sp : Sp} {E : L2.St → XK} {pins : List (Addr × Obj)} {σ : L2.St} {H : Hp} {s : Shared} {Q : VK} {us ws : List Value} {vs zs : List V} (Fo : FnOk X.prog X.w X.K X.mg X.base CX k f fd ps sp)
    (hr : Room k X.A) (kb : KwB fd ps n0 ks ix) (hx : PassesAt CX X σ (E σ)) (I : Inv X pins σ H s) (r : Vals vs us) (rz : Vals zs ws) (l0 : us.length = n0) (l1 : ws.length = ks.length) (h : sp (pick ix (vs ++ zs)) H Q (E σ)) :
    wpAny (model X.prog X.w) X.A (call (.ref f) us (ks.zip ws)) (EP X pins σ Q) X.xe s := by
  apply wpAny_call
  apply codeAny_mono (Fo.run X.A X.stack s H ⟨us, ks.zip ws⟩ (pick ix (us ++ ws)) (pick ix (vs ++ zs)) Q (E σ) hr I.env0 (kb.to s us ws l0 l1) (vals_pick (r.append rz) ix) h)
  intro res s' z
  cases res with
  | error x => exact hx pins H s x s' I z
  | ok fl => cases fl with
    | ret u => exact I.after z
    | next => exact z.elim
    | brk => exact z.elim
    | cont => exact z.elim
abbrev PKd (X : Cx) (cl : Cl) (e : Ent) (W : WX) (kws : List Keyword) (g : DA) : Prop := PK X kws (rdA X.K cl e W g)
theorem k_nil : PKd X cl e W [] aNil := ⟨fun pos pins s σ H Q I ⟨F, ca, s0, b, q⟩ => pk_nil.run pos pins s σ H Q I (q [] F H ca b (Ex.refl F) (Pre.refl ca) .nil)⟩
theorem k_cons {nm : Option Str} {a : Expr} {kpos : Pos} {kws : List Keyword} {f : DE} (ha : PEd X cl e W a f) (hr : PKd X cl e W kws ga) : PKd X cl e W (⟨nm, a, kpos⟩ :: kws) (aCons f ga) :=
  ⟨fun pos pins s σ H Q I ⟨F, ca, s0, b, q⟩ => (pk_cons ha hr).run pos pins s σ H Q I (by
    refine useA_rd b q fun v d s1 F1 H1 ca1 b1 i1 x1 p1 q1 => ?_
    refine useA_rdA b1 q1 fun vs ds s2 F2 H2 ca2 b2 i2 x2 p2 q2 => ?_
    exact q2 (v :: vs) F2 H2 ca2 b2 (Ex.refl F2) (Pre.refl ca2) (.cons (i1.mono x2 p2) i2))⟩
def kwK (n nk : Nat) (m : Fn) (ix : List Nat) (s : S) (hd ds : List D) : R := if ds.length = nk ∧ (pick ix (hd ++ ds)).length = n then frK s (m (pick ix (hd ++ ds)) s.ce) else .no
def dCallK (n nk : Nat) (m : Fn) (ix : List Nat) (g : DA) : DE := fun s => bindAR (g s) fun ds s1 => kwK n nk m ix s1 [] ds
theorem d_callK {n k : Nat} {m : Fn} {f : Addr} {fd : FuncData} {ps ks : List Str} {ix : List Nat} {x : Str} {p pos : Pos} {kws : List Keyword} (Fo : FnOk X.prog X.w X.K X.mg X.base (L2.CX X.prog X.w) k f fd ps (spD X.K cl n m)) (hr : Room k X.A) (hg : Gl X x) (hm : X.mg x = some (.ref f))
    (hk : PySem.W.keepIn X.K (.ref f) = true) (kb : KwB fd ps 0 ks ix) (tk : Takes X W) (hkw : PKd X cl e W kws ga) (hall : (backToKw pos (keywordEach kws X.env)).all (·.1.isSome) = true := by rfl) (hks : (backToKw pos (keywordEach kws X.env)).filterMap (·.1) = ks := by rfl)
    (hdb : (x == ("__debug__" : Str)) = false := by decide) (hpl : ((backTo pos (starEach [] X.env)).any (·.1) || (backToKw pos (keywordEach kws X.env)).any (·.1.isNone)) = false := by rfl) :
    PEd X cl e W (.Call (.Name x p) [] kws pos) (dCallK n ks.length m ix ga) := by
  refine ⟨fun pins s σ H Q I h => ?_⟩
  obtain ⟨F, ca, s0, b0, q⟩ := h
  apply wpAny_Call_Name_kw
  apply ld_glob I hg hm ?_ hdb
  apply PySem.W.callWith_KW0 (h₀ := X.base) I.ok.mod.kin hk hall ?_ hpl
  refine thn (hkw.run pos pins s σ H _ I (use_rdA b0 q fun vs ds s1 F1 H1 ca1 b1 i1 x1 p1 q1 => (⟨ds, s1, F1, ca1, b1, i1, q1⟩ : ∃ ds s1 F1 ca1, Bx X cl e F1 H1 ca1 σ s1 ∧ IsL X.K cl F1 ca1 vs ds ∧ rdK X.K cl e W σ F1 ca1 Q (kwK n ks.length m ix s1 [] ds)))) fun ws s2 ⟨zs, H2, I2, r2, ds, t2, F2, ca2, b2, j2, q3⟩ => ⟨I2.kIn, ?_⟩
  rw [hks]
  unfold kwK at q3
  by_cases hn : ds.length = ks.length ∧ (pick ix ([] ++ ds)).length = n
  · rw [if_pos hn] at q3
    have ip := isL_pick j2 ix
    exact kw_run (E := WE W) (us := []) (vs := []) Fo hr kb (passAt tk σ) I2 .nil r2 rfl (by rw [← r2.length, j2.length]; exact hn.1) (sp_of b2 (by rw [List.nil_append, ip.length]; exact hn.2) ip q3)
  · rw [if_neg hn] at q3
    exact False.elim q3
/-- o.m(k = v, ..) -/
def methKK (n nk : Nat) (nm : Str) (m : Fn) (ix : List Nat) (d : D) (ga : DA) (s1 : S) : Option (List (Str × D)) → R
  | some fs => if (fs.lookup nm).isNone = true then bindAR (ga s1) fun ds s2 => kwK n nk m ix s2 [d] ds else .no
  | none => .no
def dMethK (c0 n nk : Nat) (nm : Str) (m : Fn) (ix : List Nat) (f : DE) (ga : DA) : DE := fun s => bindR (f s) fun d s1 => methKK n nk nm m ix d ga s1 (instF c0 s1.ce d)
theorem d_methK {n k c0 : Nat} {m : Fn} {fa : Addr} {fd : FuncData} {ps ks : List Str} {ix : List Nat} {nm : Str} {apos pos : Pos} {kws : List Keyword} {o : Expr} {f : DE} {pl : Sem Bool} (Fo : FnOk X.prog X.w X.K X.mg X.base (L2.CX X.prog X.w) k fa fd ps (spD X.K cl n m)) (hr : Room k X.A)
    (kb : KwB fd ps 1 ks ix) (tk : Takes X W) (hc : Cls X.K (cl c0)) (hm : Meth X.K (cl c0) nm fa) (ho : PEd X cl e W o f) (hkw : PKd X cl e W kws ga)
    (hall : (backToKw pos (keywordEach kws X.env)).all (·.1.isSome) = true := by rfl) (hks : (backToKw pos (keywordEach kws X.env)).filterMap (·.1) = ks := by rfl) (hpl : ((backTo pos (starEach [] X.env)).any (·.1) || (backToKw pos (keywordEach kws X.env)).any (·.1.isNone)) = false := by rfl)
    (ht : eval (.Call (.Attribute o nm apos) [] kws pos) X.env = (eval o X.env >>= fun ov => standAt apos.atName >>= fun _ => holding [ov] (getMethod ov nm pl) >>= fun z => callWith pos z.1 z.2 (backTo pos (starEach [] X.env)) (backToKw pos (keywordEach kws X.env))) := by rfl) :
    PEd X cl e W (.Call (.Attribute o nm apos) [] kws pos) (dMethK c0 n ks.length nm m ix f ga) := by
  refine ⟨fun pins s σ H Q I h => ?_⟩
  obtain ⟨F, ca, s0, b0, q⟩ := h
  refine PySem.W.methodCall_KW (pl := pl) (thn (ho.run pins s σ H _ I (use_rd b0 q fun v d s1 F1 H1 ca1 b1 i1 x1 p1 q1 => (⟨d, s1, F1, ca1, b1, i1, q1⟩ : ∃ d s1 F1 ca1, Bx X cl e F1 H1 ca1 σ s1 ∧ Is X.K cl F1 ca1 v d ∧ rdK X.K cl e W σ F1 ca1 Q (methKK n ks.length nm m ix d ga s1 (instF c0 s1.ce d))))) fun u s1 ⟨v, H1, I1, r1, d, t1, F1, ca1, b1, i1, q1⟩ => ?_) ht
  cases e1 : instF c0 t1.ce d with
  | none =>
    rw [e1] at q1
    exact False.elim q1
  | some fs =>
    rw [e1] at q1
    have q2 : rdK X.K cl e W σ F1 ca1 Q (if (fs.lookup nm).isNone = true then bindAR (ga t1) fun ds s2 => kwK n ks.length m ix s2 [d] ds else .no) := q1
    by_cases hz : (fs.lookup nm).isNone = true
    · rw [if_pos hz] at q2
      obtain ⟨q, dx, vs, rfl, hH, hi⟩ := inst_ok b1 i1 e1
      obtain rfl : u = Value.ref q := r1
      refine getmeth_ok I1 hH hc hm (isF_none hi (Option.isNone_iff_eq_none.mp hz)) ?_
      apply PySem.W.callWith_KW0 (first := [.ref q]) (h₀ := X.base) I.ok.mod.kin hm.kp hall ?_ hpl
      refine thn (hkw.run pos pins s1 σ H1 _ I1 (use_rdA b1 q2 fun vs ds s2 F2 H2 ca2 b2 i2 x2 p2 q3 => (⟨ds, s2, F2, ca2, b2, i1.mono x2 p2, i2, q3⟩ : ∃ ds s2 F2 ca2, Bx X cl e F2 H2 ca2 σ s2 ∧ Is X.K cl F2 ca2 (.ref q) d ∧ IsL X.K cl F2 ca2 vs ds ∧ rdK X.K cl e W σ F2 ca2 Q (kwK n ks.length m ix s2 [d] ds)))) fun ws s2 ⟨zs, H2, I2, r2, ds, t2, F2, ca2, b2, j1, j2, q3⟩ => ⟨I2.kIn, ?_⟩
      rw [hks]
      unfold kwK at q3
      by_cases hn : ds.length = ks.length ∧ (pick ix ([d] ++ ds)).length = n
      · rw [if_pos hn] at q3
        have ip := isL_pick (IsL.cons j1 j2) ix
        exact kw_run (E := WE W) (us := [.ref q]) (vs := [.ref q]) Fo hr kb (passAt tk σ) I2 (.cons rfl .nil) r2 rfl (by rw [← r2.length, j2.length]; exact hn.1) (sp_of b2 (by show (pick ix (.ref q :: zs)).length = n; rw [ip.length]; exact hn.2) ip q3)
      · rw [if_neg hn] at q3
        exact False.elim q3
    · rw [if_neg hz] at q2
      exact False.elim q2
end
end Dv

set_option maxRecDepth 100000
set_option maxHeartbeats 4000000
/-! [.. for i, x in enumerate(xs)] -/
namespace Dv
open PySem PySem.Spec PyProof.Rows L2
section
variable {X : Cx} {cl : Cl} {e : Ent} {W : WX}
theorem enumD_len : ∀ (k : Nat) (xs : List D), (enumD k xs).length = xs.length
  | _, [] => rfl
  | k, x :: xs => by
    show (enumD (k + 1) xs).length + 1 = xs.length + 1
    rw [enumD_len]
theorem enumD_get : ∀ {xs : List D} {k i : Nat} {d : D}, (enumD k xs)[i]? = some d → ∃ x, xs[i]? = some x ∧ d = .tup [.int ((k + i : Nat) : Int), x]
  | [], _, _, _, h => by cases h
  | x :: xs, k, 0, d, h => by
    cases h
    exact ⟨x, rfl, rfl⟩
  | x :: xs, k, i + 1, d, h => by
    obtain ⟨y, h1, h2⟩ := enumD_get (xs := xs) (k := k + 1) (i := i) (d := d) h
    refine ⟨y, h1, ?_⟩
    rw [h2]
    have e : k + 1 + i = k + (i + 1) := by omega
    rw [e]
theorem wk_enum {F : Hp} {ca : List Addr} {a : Addr} {va : List V} {as : List D} (la : SqL X.K F a va) (ja : IsL X.K cl F ca va as) : WkD X cl (Ite X.K a) F ca (enumD 0 as) := fun e F1 H ca1 σ s b x p _ => by
  have h1 := ex_l (x.trans b.fh) la
  refine ⟨⟨va, h1, by rw [enumD_len, ja.length]; omega⟩, fun i d hd => ?_⟩
  obtain ⟨d1, e1, rfl⟩ := enumD_get hd
  obtain ⟨v1, hv1, i1⟩ := ja.get e1
  refine ⟨⟨va, v1, h1, hv1⟩, fun w H' y => ?_⟩
  obtain ⟨T, x0, rfl, hT, rfl, y1⟩ := y
  have z1 := y1 va h1
  rw [hv1] at z1
  cases z1
  rw [Nat.zero_add]
  exact wk_new b hT (.int _) (i1.mono x p)
theorem ic_enum {ga : DA} : ItC X cl e W (iEnum X.K (rdA X.K cl e W ga)) (iA enumK ga) := ⟨fun F H ca σ s Q k Z b q go => by
  refine use_iAR b q fun vs ds xs s1 F1 H1 ca1 b1 i1 hk q1 => ?_
  unfold enumK at hk
  split at hk
  · rename_i da
    obtain ⟨as, e1, rfl⟩ := Option.map_eq_some_iff.mp hk
    cases i1 with
    | cons ia it =>
      cases it
      obtain ⟨a, va, rfl, la, ja⟩ := frL_ok ia e1
      exact ⟨a, va, rfl, ex_l b1.fh la, go _ _ s1 F1 H1 ca1 b1 (wk_enum la ja) q1⟩
  · cases hk⟩
end
end Dv

set_option maxRecDepth 100000
set_option maxHeartbeats 4000000
/-! texts of data: all signs in range; repr of a small thing -/
namespace Dv
open PySem PySem.Spec PyProof.Rows L2
theorem ok_app (a b : Str) : PyData.strOk (a ++ b) = (PyData.strOk a && PyData.strOk b) := by
  unfold PyData.strOk
  show (a.cps ++ b.cps).all _ = _
  exact Array.all_append
theorem ok_of (s : String) : PyData.strOk (Str.ofString s) = true := by
  rw [Str.ofString_eq_toList]
  unfold PyData.strOk
  rw [List.all_toArray, List.all_eq_true]
  intro n hn
  obtain ⟨c, _, rfl⟩ := List.mem_map.mp hn
  have v : c.toNat < 0xd800 ∨ (0xdfff < c.toNat ∧ c.toNat < 0x110000) := c.valid
  exact decide_eq_true (by omega)
theorem ok_from : ∀ (ts : List Str) (k : Nat) (acc : Str), (∀ t ∈ ts, PyData.strOk t = true) → PyData.strOk acc = true → PyData.strOk (textFrom k acc ts) = true
  | [], _, _, _, h => h
  | t :: r, k, acc, ht, h => by
    show PyData.strOk (textFrom (k + 1) (acc ++ (if k > 0 then ", " else "" : String) ++ t) r) = true
    refine ok_from r _ _ (fun x hx => ht x (List.mem_cons_of_mem _ hx)) ?_
    rw [ok_app, ok_app, h, ht t List.mem_cons_self, ok_of] <;> rfl
theorem ok_list (ts : List Str) (h : ∀ t ∈ ts, PyData.strOk t = true) : PyData.strOk (listText ts) = true := by
  unfold listText
  have e1 := ok_from ts 0 (Str.ofString "[") h (ok_of _)
  have e2 := ok_of "]"
  show PyData.strOk (textFrom 0 (Str.ofString "[") ts ++ Str.ofString "]") = true
  rw [ok_app, e1, e2] <;> rfl
mutual
def plainP : PyData → Bool
  | .none => true
  | .bool _ => true
  | .int _ => true
  | .list xs => plainPs xs
  | _ => false
def plainPs : List PyData → Bool
  | [] => true
  | x :: xs => plainP x && plainPs xs
end
mutual
theorem ok_plain : ∀ p : PyData, plainP p = true → PyData.strOk p.shown = true
  | .none, _ => by
    rw [PyData.shown_none]
    exact ok_of "None"
  | .bool b, _ => by
    rw [PyData.shown_bool]
    cases b
    · exact ok_of "False"
    · exact ok_of "True"
  | .int i, _ => by
    rw [PyData.shown_int]
    exact ok_of (toString i)
  | .list xs, h => by
    have e : PyData.shown (.list xs) = listText (PyData.shownAll xs) := by simp only [PyData.shown]
    rw [e]
    exact ok_list _ (ok_plains xs h)
  | .str _, h => by cases h
  | .tuple _, h => by cases h
  | .dict _, h => by cases h
theorem ok_plains : ∀ xs : List PyData, plainPs xs = true → ∀ t ∈ PyData.shownAll xs, PyData.strOk t = true
  | [], _, t, h => by cases h
  | x :: xs, h, t, ht => by
    have h' : (plainP x && plainPs xs) = true := h
    rw [Bool.and_eq_true] at h'
    rw [PyData.shownAll_cons] at ht
    rcases List.mem_cons.mp ht with z | z
    · subst z
      exact ok_plain x h'.1
    · exact ok_plains xs h'.2 t z
end
theorem repr_of {s s1 : S} {f : DE} {d : D} {p : PyData} (e : f s = .ok d s1) (hp : toP3 s1.ce d = some p) (h : rpOk p) : dBi (b1 reprD) (aCons f aNil) s = .ok (.str p.shown) s1 := by
  rw [r_bi (r_a1 e)]
  show poK s1 (reprK (toP3 s1.ce d)) = _
  rw [hp]
  show poK s1 (if rpOk p then .v (.str p.shown) else .no) = _
  rw [if_pos h] <;> rfl
/-- small data: light, with short leaves -/
theorem rp_small {p : PyData} (h1 : p.showable = true) (h2 : p.hasDict = false) (h3 : p.depth ≤ 50) (h4 : p.leavesShort 13 = true) (h5 : p.weight ≤ 60000) : rpOk p := by
  have h := PyData.shown_le 13 (by decide) p h4
  exact ⟨h1, h2, h3, by omega⟩
theorem sh_str {x : Str} (h : PyData.strOk x = true) : SeqAt.shaped (.str x) = true := by
  show (PyData.strOk x && true) = true
  rw [h] <;> rfl
theorem ne_str (ce : List Cell) {x : Str} (h : PyData.strOk x = true) : pNe ce (.str x) (.str x) = .v (.bl false) := by
  show (if SeqAt.shaped (.str x) = true ∧ SeqAt.shaped (.str x) = true then Po.v (.bl (!(x == x))) else .no) = _
  rw [if_pos ⟨sh_str h, sh_str h⟩, beq_self_eq_true] <;> rfl
theorem eq_str (ce : List Cell) {x : Str} (h : PyData.strOk x = true) : pEq ce (.str x) (.str x) = .v (.bl true) := by
  show (if SeqAt.shaped (.str x) = true ∧ SeqAt.shaped (.str x) = true then Po.v (.bl (x == x)) else .no) = _
  rw [if_pos ⟨sh_str h, sh_str h⟩, beq_self_eq_true] <;> rfl
theorem callK_run {m : Fn} {ga : DA} {s : S} {d1 d2 d : D} (h : ga s = .ok [d1, d2] s) (hm : m [d2, d1] s.ce = .ok d s.ce) : dFz (dCallK 2 2 m [1, 0] ga) s = .ok d s := by
  refine r_fz_ok ?_
  unfold dCallK
  rw [h]
  show frK s (m [d2, d1] s.ce) = _
  rw [hm] <;> rfl
end Dv

set_option maxRecDepth 100000
set_option maxHeartbeats 4000000
/-! x not in o, o an instance of the text's class -/
namespace Dv
open PySem PySem.Spec PyProof.Rows L2
def boolN : R → R
  | .ok (.bl t) s => .ok (.bl (!t)) s
  | .er x s => .er x s
  | _ => .no
def dNotInO (c0 : Nat) (m : Fn) (f g : DE) : DE := fun s => bindR (f s) fun d s1 => bindR (g s1) fun w s2 => boolN (ownK c0 2 m s2 [w, d] (instF c0 s2.ce w))
section
variable {X : Cx} {cl : Cl} {e : Ent} {W : WX} {a b : Expr} {f g : DE} {c0 k : Nat} {m : Fn} {fa : Addr} {fd : FuncData} {ps : List Str}
theorem boolN_w {F : Hp} {ca : List Addr} {σ : L2.St} {Q : VK} {r : R} (q : rdK X.K cl e W σ F ca Q (boolN r)) : rdK X.K cl e W σ F ca (fun v H => ∃ t : Bool, v = .bl t ∧ Q (.bl (!t)) H) r := by
  cases r with
  | ok d s =>
    cases d with
    | bl t =>
      intro v F' H' ca' b x p iv
      cases iv
      exact ⟨t, rfl, q (.bl (!t)) F' H' ca' b x p (.bl _)⟩
    | _ => exact False.elim q
  | er xc s => exact q
  | _ => exact False.elim q
theorem p_notinO (Fo : FnOk X.prog X.w X.K X.mg X.base (L2.CX X.prog X.w) k fa fd ps (spD X.K cl 2 m)) (hr : Room k X.A) (hb : Binds X.K fd ps []) (tk : Takes X W)
    (hs : PySem.W.findIn X.K (.ref (cl c0)) "__contains__" = some (some (.ref fa))) (hf : PySem.W.isFn X.K (.ref fa) = true)
    (ha : PEd X cl e W a f) (hbb : PEd X cl e W b g) : PC X .NotIn a b (rd X.K cl e W (dNotInO c0 m f g)) := by
  refine ⟨fun pins s σ H Q I h => ?_⟩
  obtain ⟨F, ca, s0, b0, q⟩ := h
  refine thn (ha.run pins s σ H _ I (use_rd b0 q fun v d s1 F1 H1 ca1 b1 i1 x1 p1 q1 => (⟨d, s1, F1, ca1, b1, i1, q1⟩ : ∃ d s1 F1 ca1, Bx X cl e F1 H1 ca1 σ s1 ∧ Is X.K cl F1 ca1 v d ∧ rdK X.K cl e W σ F1 ca1 Q (bindR (g s1) fun w s2 => boolN (ownK c0 2 m s2 [w, d] (instF c0 s2.ce w)))))) fun u s1 ⟨v, H1, I1, r1, d, t1, F1, ca1, b1, i1, q1⟩ => ?_
  refine thn (hbb.run pins s1 σ H1 _ I1 (use_rd b1 q1 fun v2 w t2 F2 H2 ca2 b2 i2 x2 p2 q2 => (⟨w, t2, F2, ca2, b2, i1.mono x2 p2, i2, q2⟩ : ∃ w t2 F2 ca2, Bx X cl e F2 H2 ca2 σ t2 ∧ Is X.K cl F2 ca2 v d ∧ Is X.K cl F2 ca2 v2 w ∧ rdK X.K cl e W σ F2 ca2 Q (boolN (ownK c0 2 m t2 [w, d] (instF c0 t2.ce w)))))) fun u2 s2 ⟨v2, H2, I2, r2, w, t2, F2, ca2, b2, j1, j2, q2⟩ => ?_
  obtain ⟨hsp, fs, e2⟩ := own_sp (o := instF c0 t2.ce w) b2 (.cons j2 (.one j1)) (boolN_w q2)
  obtain ⟨p, dx, vs, rfl, hH, hi⟩ := inst_ok b2 j2 e2
  obtain rfl : u2 = Value.ref p := r2
  obtain ⟨mA, J, _⟩ := ins_get I2.hok hH
  obtain ⟨od, J, _⟩ := J.look
  obtain ⟨mm, hF⟩ := I2.fr
  refine PySem.W.notIn_K hF I2.ok.mod.kin J hs hf (thn (run_fnS (E := WE W) (vs := [.ref p, v]) Fo hr hb (passAt tk σ) I2 (.cons rfl (.cons r1 .nil)) hsp) fun u3 s3 z => ?_)
  obtain ⟨v3, H3, I3, r3, t, rfl, q3⟩ := z
  obtain rfl : u3 = Value.bool t := r3
  exact wpAny_truthy_bool ⟨.bl (!t), H3, I3, rfl, q3⟩
theorem c_notinO {pos : Pos} (h1 : behindInMarks .NotIn b = false) (hh : PC X .NotIn a b (rd X.K cl e W f)) : PTd X cl e W (.Compare a [.NotIn] [b] pos) (bTest f) := pt_w (pt_cmp hh h1) fun _ _ _ q => rd_test q
theorem e_notinO {pos : Pos} (h1 : behindInMarks .NotIn b = false) (hh : PC X .NotIn a b (rd X.K cl e W f)) : PEd X cl e W (.Compare a [.NotIn] [b] pos) f := pe_cmp hh h1
end
end Dv

set_option maxRecDepth 100000
set_option maxHeartbeats 4000000
/-! list(range(a, b)) -/
namespace Dv
open PySem PySem.Spec PyProof.Rows L2
def lrK (s : S) : D → D → R
  | .int a, .int b => if 0 ≤ a ∧ a ≤ 100000 ∧ 0 ≤ b ∧ b ≤ 100000 then .nl (rngD a (b - a).toNat) s else .no
  | _, _ => .no
def dListRg2 (f g : DE) : DE := fun s => bindR (f s) fun d s1 => bindR (g s1) fun w s2 => lrK s2 d w
section
variable {X : Cx} {cl : Cl} {e : Ent} {W : WX} {a b : Expr} {f g : DE} {p p2 pos q0 : Pos}
theorem isL_rg {K : PySem.W.Frag} {F : Hp} {ca : List Addr} (i j : Int) : IsL K cl F ca (rgV i j) (rngD i (j - i).toNat) := by
  have e1 : rgV i j = ((List.range (j - i).toNat).map fun (k : Nat) => i + ((k : Nat) : Int)).map V.int := by
    unfold rgV
    rw [List.map_map] <;> rfl
  have e2 : rngD i (j - i).toNat = ((List.range (j - i).toNat).map fun (k : Nat) => i + ((k : Nat) : Int)).map D.int := by
    unfold rngD
    rw [List.map_map] <;> rfl
  rw [e1, e2]
  exact isL_ints _
theorem e_listRg2 (hc : X.calm = true) (hg : Gl X "list") (hz : X.mg "list" = none) (hg2 : Gl X "range") (hz2 : X.mg "range" = none) (ha : PEd X cl e W a f) (hb : PEd X cl e W b g)
    (na : starEach [a, b] X.env = (false, eval a X.env) :: starEach [b] X.env := by rfl) (nb : starEach [b] X.env = (false, eval b X.env) :: starEach [] X.env := by rfl)
    (nc : starEach [(Expr.Call (.Name "range" p2) [a, b] [] q0)] X.env = (false, eval (.Call (.Name "range" p2) [a, b] [] q0) X.env) :: starEach [] X.env := by rfl) (np : (backTo q0 (starEach [b] X.env)).any (·.1) = false := by rfl) :
    PEd X cl e W (.Call (.Name "list" p) [.Call (.Name "range" p2) [a, b] [] q0] [] pos) (dListRg2 f g) :=
  pe_w (pe_listRg hc hg hz (prg_2 hg2 hz2 ha hb na nb np) nc) fun σ H Q q => by
    obtain ⟨F, ca, s, b0, q⟩ := q
    refine use_rd b0 q fun v d s1 F1 H1 ca1 b1 i1 x1 p1 q1 => ?_
    refine use_rd b1 q1 fun w y s2 F2 H2 ca2 b2 i2 x2 p2 q2 => ?_
    cases d with
    | int i =>
      cases y with
      | int j =>
        have q3 : rdK X.K cl e W σ F2 ca2 Q (if 0 ≤ i ∧ i ≤ 100000 ∧ 0 ≤ j ∧ j ≤ 100000 then .nl (rngD i (j - i).toNat) s2 else .no) := q2
        by_cases hz : 0 ≤ i ∧ i ≤ 100000 ∧ 0 ≤ j ∧ j ≤ 100000
        · rw [if_pos hz] at q3
          cases i1
          cases i2
          exact ⟨i, j, rfl, rfl, RgOk.of_le (by omega) (by omega) (by omega) (by omega), fun t ht => q3 (.ref t) F2 _ ca2 (b2.laid ht) (Ex.refl F2) (Pre.refl ca2) ⟨t, _, rfl, upd_same, isL_rg i j, b2.notF ht, b2.notca ht, b2.notH0 ht⟩⟩
        · rw [if_neg hz] at q3
          exact False.elim q3
      | _ => exact False.elim q2
    | _ => exact False.elim q2
end
end Dv

set_option maxRecDepth 100000
set_option maxHeartbeats 4000000
/-! sorted(set(xs)), fewer than 4000 items -/
namespace Dv
open PySem PySem.Spec PyProof.Rows L2
section
variable {P : Program} {w : World} {A : Around} {E : Value → Shared → Prop} {s : Shared} {a : Addr}
theorem sorted_setG {S : Int → Bool} {n : Nat} {Q : Value → Shared → Prop} (R : SetR w s.heap a S n) (hh : A.handled = none) (h64 : n < 5000)
    (hQ : ∀ s' p (out : List Value) (c : Nat) (ns : List Int), (∀ b o, s.heap.get? b = some o → s'.heap.get? b = some o) → s'.gens = s.gens → s'.os = s.os → s.heap.objs.size ≤ p →
      s'.heap.get? p = some (seqObj "list" out.toArray c) → IntsAre out ns → ns.Pairwise (· < ·) → (∀ k, k ∈ ns ↔ S k = true) → ns.length = n → Q (.ref p) s') :
    wpAny (model P w) A (call (.builtin "sorted") [.ref a]) Q E s := by
  obtain ⟨o, es, ep, t, ho, hex, hd, g, nd, hm, hb, hf, hn, hr, hl⟩ := R
  refine Calls.call_function_entry kind_sorted plain_sorted entry_sorted (args_sorted1 _) ?_
  unfold Builtin.«sorted»
  refine wpAny_bind (m := checkCount "sorted" 1 1 _) (wpAny_pure ?_)
  refine wpAny_bind (collect_set (A := A.in1) hh ⟨o, ho, hex.1, hd⟩ hf hb hr hl fun s1 vs k1 hz g1 o1 pm => ?_)
  have hvl : vs.length = n := by rw [pm.length_eq, List.length_map, Array.length_toList]; exact hn
  have hI : IntsAre vs (vs.map Builtin.Re.reRawOf) := ints_of vs fun v hv => by
    obtain ⟨e, he, q⟩ := List.mem_map.mp (pm.mem_iff.mp hv)
    obtain ⟨k, tk, h1, _⟩ := g e he
    exact ⟨k, tk, by rw [← q]; exact h1⟩
  have pk : (vs.map Builtin.Re.reRawOf).Perm (es.toList.map keyOf) := by
    have q := pm.map Builtin.Re.reRawOf
    rw [List.map_map] at q
    exact q
  have n4 : vs.length ≤ sizeLine := by rw [hvl, sizeLine_eq]; omega
  refine wpAny_bind (wpAny_newList ?_ n4)
  have new : (s1.heap.push (seqObj "list" vs.toArray 0)).get? s1.heap.objs.size = some (seqObj "list" vs.toArray 0) := Heap.get?_push_size _ rfl
  show wpAny _ _ _ _ _ { s1 with heap := s1.heap.push (seqObj "list" vs.toArray 0) }
  apply wpAny_bind
  apply wpAny_holding
  refine wpAny_call_entry PyProof.Rows.slot_list_sort ⟨_, new, rfl⟩ PyProof.Rows.entry_list_sort ?_ (PyProof.Rows.args_list_sort _)
  refine SrtO.list_sort_ord (s := { s1 with heap := s1.heap.push (seqObj "list" vs.toArray 0) }) SrtO.swo_int new n4 (fun h2 => SrtO.ints_sortable hI h2) ?_
  intro out h1 h2
  obtain ⟨k2, k3, k4⟩ := SrtO.ints_out hI h1 h2
  obtain ⟨ep2, gt⟩ := PyProof.Rows.sortedHeap_at (vs := vs) (out := out.toArray) new
  have pn : (out.map SrtO.iv).Perm (es.toList.map keyOf) := k3.trans pk
  refine ⟨_, rfl, wpAny_pure ⟨_, rfl, hQ _ s1.heap.objs.size out ep2 (out.map SrtO.iv) (fun b u e => ?_) g1 o1 hz gt k2 (lt_of_le_nodup _ k4 (pn.nodup_iff.mpr nd)) (fun k => by rw [pn.mem_iff, ← hm k]) ?_⟩⟩
  · have q := k1 b u e
    have hlt := Heap.lt_size q
    show (sortedHeap (s1.heap.push (seqObj "list" vs.toArray 0)) s1.heap.objs.size vs out.toArray).get? b = some u
    rw [PyProof.Rows.sortedHeap_old (Nat.ne_of_lt hlt) (by rw [size_push']; exact Nat.lt_succ_of_lt hlt)]
    exact Heap.get?_push_of_some _ q
  · rw [pn.length_eq, List.length_map, Array.length_toList]; exact hn
end
section
variable {X : Cx}
def rSortedSetG (w : World) : List V → Hp → VK → Prop := fun vs H Q => ∃ (a : Addr) (S : Int → Bool) (n : Nat), vs = [V.ref a] ∧ H a = some (SetO w a S n) ∧ n < 5000 ∧
  ∀ (ns : List Int) (p : Addr), ns.Pairwise (· < ·) → (∀ k : Int, k ∈ ns ↔ S k = true) → ns.length = n → H p = none → Q (.ref p) (upd H p (.lst (ns.map V.int)))
theorem cr_sortedSetG (hc : X.calm = true) : CallR X (.builtin "sorted") (rSortedSetG X.w) := by
  intro pins s σ H vs us Q I r h
  obtain ⟨a, S, n, rfl, ha, h64, q⟩ := h
  have R := setO_get I ha
  rw [Vals.ref1 r]
  refine sorted_setG R (I.ok.hd hc) h64 fun s' p out c ns k g o hp hg hi hs hm hl => ?_
  have hlen : (ns.map V.int).length ≤ sizeLine := by rw [List.length_map, hl, sizeLine_eq]; omega
  have hn : H p = none := I.hok.fresh hp
  have J : Inv X pins σ (upd H p (.lst (ns.map V.int))) { s with heap := s'.heap, gens := s'.gens, drawn := s'.drawn, toks := s'.toks } :=
    I.call (ch := []) (Un.laid k hp hn) (I.hok.laid k hp ⟨hlen, out, c, vals_of_ints hi, hg⟩) (by rw [g]; exact I.bare) (fun _ z => nomatch z)
  have e : s' = { s with heap := s'.heap, gens := s'.gens, drawn := s'.drawn, toks := s'.toks } := by
    cases s'
    cases s
    cases o
    rfl
  rw [e]
  exact ⟨.ref p, _, J, rfl, q ns p hs hm hl hn⟩
end
def sortSetG (s : S) : Option (List D) → R
  | some xs => match intsD xs with
    | some ns => if ns.length < 4000 then .nl ((sset ns).map .int) s else .no
    | none => .no
  | none => .no
def dSortSetG (f : DE) : DE := fun s => bindR (f s) fun d s1 => sortSetG s1 (look s1.ce d)
section
variable {X : Cx} {cl : Cl} {e : Ent} {W : WX} {a : Expr} {f : DE} {p p2 q0 pos : Pos}
theorem e_sortsetG (hc : X.calm = true) (hg : Gl X "sorted") (hz : X.mg "sorted" = none) (hg2 : Gl X "set") (hz2 : X.mg "set" = none) (ha : PEd X cl e W a f)
    (na : starEach [a] X.env = (false, eval a X.env) :: starEach [] X.env := by rfl)
    (nb : starEach [(Expr.Call (.Name "set" p2) [a] [] q0)] X.env = (false, eval (.Call (.Name "set" p2) [a] [] q0) X.env) :: starEach [] X.env := by rfl) :
    PEd X cl e W (.Call (.Name "sorted" p) [.Call (.Name "set" p2) [a] [] q0] [] pos) (dSortSetG f) := by
  refine ⟨fun pins s σ H Q I h => ?_⟩
  obtain ⟨F, ca, s0, b0, q⟩ := h
  refine Call_ (ld_blt I hg hz (by decide +kernel : bootBuiltins "sorted" = some (.builtin "sorted")) ?_)
  refine PyProof.Rows.callWith_builtin1 (PyProof.Rows.args_cons ?_ nb) nb rfl
  refine Call_ (ld_blt I hg2 hz2 (by decide +kernel : bootBuiltins "set" = some (.type "set")) ?_)
  refine PyProof.Rows.callWith_type1 (PyProof.Rows.args_cons (thn (ha.run pins s σ H _ I (use_rd b0 q fun v d s1 F1 H1 ca1 b1 i1 x1 p1 q1 => (⟨d, s1, F1, ca1, b1, i1, q1⟩ : ∃ d s1 F1 ca1, Bx X cl e F1 H1 ca1 σ s1 ∧ Is X.K cl F1 ca1 v d ∧ rdK X.K cl e W σ F1 ca1 Q (sortSetG s1 (look s1.ce d))))) fun u s1 ⟨v, H1, I1, r1, d, t1, F1, ca1, b1, i1, q1⟩ => PyProof.Rows.args_nil ?_) na) na rfl
  cases e1 : look t1.ce d with
  | none =>
    rw [e1] at q1
    exact False.elim q1
  | some xs =>
    rw [e1] at q1
    have q2 : rdK X.K cl e W σ F1 ca1 Q (match intsD xs with
      | some ns => if ns.length < 4000 then .nl ((sset ns).map .int) t1 else .no
      | none => .no) := q1
    cases e2 : intsD xs with
    | none =>
      rw [e2] at q2
      exact False.elim q2
    | some ns =>
      rw [e2] at q2
      have q3 : rdK X.K cl e W σ F1 ca1 Q (if ns.length < 4000 then .nl ((sset ns).map .int) t1 else .no) := q2
      by_cases h64 : ns.length < 4000
      · rw [if_pos h64] at q3
        obtain ⟨y, vs, rfl, hq, hi⟩ := look_ok b1 i1 e1
        rw [intsD_eq e2] at hi
        have ev := of_ints hi
        subst ev
        cases r1
        obtain ⟨its, r, pl, hzz⟩ := I1.list hq
        refine call_setL ns (I1.ok.hd hc) pl.isList (by simpa using intsAre_of r) (by unfold scanBound; omega) fun h' tk c hL => PyProof.Rows.args_nil ?_
        obtain ⟨hR, hc2, hk⟩ := hL
        have hn : H1 s1.heap.objs.size = none := I1.hok.fresh (Nat.le_refl _)
        have I2 : Inv X pins σ (upd H1 s1.heap.objs.size (SetO X.w s1.heap.objs.size (fun j => decide (j ∈ ns)) c)) { s1 with heap := h', toks := tk } := I1.laid (t' := tk) (fun b u e => hk b u e) (Nat.le_refl _) (setO_new hR)
        refine cr_sortedSetG hc pins _ σ _ [V.ref s1.heap.objs.size] [Value.ref s1.heap.objs.size] Q I2 (.cons rfl .nil) ⟨_, _, c, rfl, upd_same, by omega, fun ms z hs hm hl hz0 => ?_⟩
        have em : ms = sset ns := asc_one hs (sset_asc ns) fun x => by
          rw [hm x, sset_mem, decide_eq_true_iff]
        subst em
        have bb := b1.laid (o := SetO X.w s1.heap.objs.size (fun j => decide (j ∈ ns)) c) hn
        exact q3 (.ref z) F1 _ ca1 (bb.laid hz0) (Ex.refl F1) (Pre.refl ca1) ⟨z, _, rfl, upd_same, isL_ints _, bb.notF hz0, bb.notca hz0, bb.notH0 hz0⟩
      · rw [if_neg h64] at q3
        exact False.elim q3
end
/-! xs.count(k), ints -/
def cntK : Option (List D) → D → Mo
  | some xs, .int k => match intsD xs with
    | some ns => .v (.int ((ns.count k : Nat) : Int))
    | none => .no
  | _, _ => .no
def mCnt (ce : List Cell) (d : D) : List D → Mo
  | [k] => cntK (look ce d) k
  | _ => .no
section
variable {X : Cx} {cl : Cl} {e : Ent}
theorem md_cnt : MtD X cl e (rCntI X.K) mCnt := fun F H ca σ s v d vs ds b i il => by
  cases il with
  | nil => trivial
  | cons ik it =>
    cases it with
    | cons _ _ => trivial
    | nil =>
      show MoK X cl e F H ca σ s _ (cntK (look s.ce d) _)
      cases e1 : look s.ce d with
      | none => trivial
      | some xs =>
        cases ik with
        | int k =>
          show MoK X cl e F H ca σ s _ (match intsD xs with
            | some ns => Mo.v (.int ((ns.count k : Nat) : Int))
            | none => .no)
          cases e2 : intsD xs with
          | none => trivial
          | some ns =>
            obtain ⟨a, us, rfl, hq, hi⟩ := look_ok b i e1
            rw [intsD_eq e2] at hi
            have ev := of_ints hi
            subst ev
            exact fun Q q => ⟨a, ns, k, rfl, rfl, hq, q _ H b (.int _)⟩
        | _ => trivial
end
end Dv

set_option maxRecDepth 100000
set_option maxHeartbeats 4000000
/-! xs.pop(0), xs.reverse(), xs.clear() -/
namespace Dv
open PySem PySem.Spec PyProof.Rows L2
section
variable {X : Cx} {cl : Cl} {e : Ent} {W : WX}
def popK (j : Nat) (i : Int) : Option (List D) → Mo
  | some (x :: xs) => if i = 0 then .w j (.lst xs) x else .no
  | _ => .no
def mPop0 (ce : List Cell) : D → List D → Mo
  | .rf j, [.int i] => popK j i (cellL ce[j]?)
  | _, _ => .no
theorem md_pop0 : MtD X cl e rPopAt mPop0 := fun F H ca σ s v d vs ds b i is => by
  cases d with
  | rf j =>
    cases is with
    | nil => trivial
    | cons i1 t =>
      cases t with
      | cons _ _ => cases i1 <;> trivial
      | nil =>
        cases i1 with
        | int n =>
          show MoK X cl e F H ca σ s _ (popK j n (cellL s.ce[j]?))
          cases e1 : cellL s.ce[j]? with
          | none => trivial
          | some ys =>
            obtain ⟨a, ws, rfl, ha, hH, hi, hF⟩ := cell_ok b i (cellL_eq e1)
            cases hi with
            | nil => trivial
            | @cons w x ws xs hx hi =>
              have e0 : seqIndex? 0 (w :: ws).length = some 0 := by
                unfold seqIndex?
                simp
              exact .ite fun hz => .wr b ha hF hi hx fun Q q => ⟨a, w :: ws, 0, 0, w, rfl, by rw [hz], hH, by decide, by decide, e0, rfl, q⟩
        | _ => trivial
  | _ => cases is <;> trivial
def revK (j : Nat) : Option (List D) → Mo
  | some xs => .w j (.lst xs.reverse) .non
  | none => .no
def mRev (ce : List Cell) : D → List D → Mo
  | .rf j, [] => revK j (cellL ce[j]?)
  | _, _ => .no
theorem md_rev : MtD X cl e rReverse mRev := fun F H ca σ s v d vs ds b i is => by
  cases d with
  | rf j =>
    cases is with
    | cons _ _ => trivial
    | nil =>
      show MoK X cl e F H ca σ s _ (revK j (cellL s.ce[j]?))
      cases e1 : cellL s.ce[j]? with
      | none => trivial
      | some ys =>
        obtain ⟨a, ws, rfl, ha, hH, hi, hF⟩ := cell_ok b i (cellL_eq e1)
        exact .wr b ha hF hi.rev .non fun Q q => ⟨a, ws, rfl, rfl, hH, q⟩
  | _ => cases is <;> trivial
def clrK (j : Nat) : Option (List D) → Mo
  | some _ => .w j (.lst []) .non
  | none => .no
def mClr (ce : List Cell) : D → List D → Mo
  | .rf j, [] => clrK j (cellL ce[j]?)
  | _, _ => .no
theorem md_clr : MtD X cl e rClear mClr := fun F H ca σ s v d vs ds b i is => by
  cases d with
  | rf j =>
    cases is with
    | cons _ _ => trivial
    | nil =>
      show MoK X cl e F H ca σ s _ (clrK j (cellL s.ce[j]?))
      cases e1 : cellL s.ce[j]? with
      | none => trivial
      | some ys =>
        obtain ⟨a, ws, rfl, ha, hH, hi, hF⟩ := cell_ok b i (cellL_eq e1)
        exact .wr b ha hF .nil .non fun Q q => ⟨a, ws, rfl, rfl, hH, q⟩
  | _ => cases is <;> trivial
theorem e_sum {a : Expr} {es : List Expr} {ga : DA} {p pos : Pos} (hc : X.calm = true) (hg : Gl X "sum") (hz : X.mg "sum" = none) (ha : PAd X cl e W (a :: es) ga) (hst : starEach (a :: es) X.env = (false, eval a X.env) :: starEach es X.env := by rfl) (hpl : (backTo pos (starEach es X.env)).any (·.1) = false := by rfl) : PEd X cl e W (.Call (.Name "sum" p) (a :: es) [] pos) (dBi (b1 sumD) ga) :=
  pe_w (pe_callB (cr_sum hc) hg hz (by decide +kernel) ha (by decide) (by decide) hst hpl) fun _ _ _ q => rd_bi bd_sum q
end
end Dv

set_option maxRecDepth 100000
set_option maxHeartbeats 4000000
/-! a locked dict: what is fixed besides it -/
namespace Dv
open PySem PySem.Spec PyProof.Rows L2
section
variable {K : PySem.W.Frag} {cl : Cl} {F F' H H' : Hp} {ca : List Addr} {a : Addr} {od : Obj} {us : List (Key × V)}
/-- what is fixed, without the dict at a -/
def delF (F : Hp) (a : Addr) : Hp := fun b => if b = a then none else F b
theorem delF_ne {b : Addr} (h : b ≠ a) : delF F a b = F b := if_neg h
theorem delF_same : delF F a a = none := if_pos rfl
/-- data don't lean on a locked dict -/
structure Locked (F : Hp) (a : Addr) : Prop where
  at_ : ∃ od us, F a = some (.frz od (.dK us))
theorem Locked.ne (l : Locked F a) {b : Addr} {u : HO} (h : F b = some u) (hu : ∀ od us, u ≠ .frz od (.dK us)) : delF F a b = some u := by
  obtain ⟨od, us, e⟩ := l.at_
  by_cases hb : b = a
  · subst hb
    rw [e] at h
    cases h
    exact absurd rfl (hu od us)
  · rw [delF_ne hb]
    exact h
theorem Locked.rd (l : Locked F a) {b : Addr} {u : HO} (h : Rd F b u) (hu : ∀ od us, u ≠ .frz od (.dK us)) (hv : ∀ us, u ≠ .dK us) : Rd (delF F a) b u := by
  rcases h with h | ⟨o, h⟩
  · exact .inl (l.ne h hu)
  · refine .inr ⟨o, l.ne h fun od us z => ?_⟩
    cases z
    exact hv us rfl
mutual
theorem Is.del (l : Locked F a) : ∀ {v : V} {d : D}, Is K cl F ca v d → Is K cl (delF F a) ca v d
  | _, _, .non => .non
  | _, _, .bl b => .bl b
  | _, _, .int i => .int i
  | _, _, .str s => .str s
  | _, _, .lst h t => .lst (l.ne h (by intro _ _ z; cases z)) (IsL.del l t)
  | _, _, .ro h t => .ro (by
      rcases h with h | h
      · exact .inl (l.rd h (by intro _ _ z; cases z) (by intro _ z; cases z))
      · exact .inr h) (IsL.del l t)
  | _, _, .tup h t => .tup (by
      rcases h with h | h
      · exact .inl (l.rd h (by intro _ _ z; cases z) (by intro _ z; cases z))
      · exact .inr h) (IsL.del l t)
  | _, _, .obj h t => .obj (l.ne h (by intro _ _ z; cases z)) (IsF.del l t)
  | _, _, .rf h => .rf h
  | _, _, .xc0 h => .xc0 (l.ne h (by intro _ _ z; cases z))
  | _, _, .xcf h g t => .xcf (l.ne h (by intro _ _ z; cases z)) (l.ne g (by intro _ _ z; cases z)) (IsF.del l t)
theorem IsL.del (l : Locked F a) : ∀ {v : List V} {d : List D}, IsL K cl F ca v d → IsL K cl (delF F a) ca v d
  | _, _, .nil => .nil
  | _, _, .cons h t => .cons (Is.del l h) (IsL.del l t)
theorem IsF.del (l : Locked F a) : ∀ {v : List (Str × V)} {d : List (Str × D)}, IsF K cl F ca v d → IsF K cl (delF F a) ca v d
  | _, _, .nil => .nil
  | _, _, .cons h t => .cons (Is.del l h) (IsF.del l t)
end
theorem IsK.del (l : Locked F a) : ∀ {v : List (Key × V)} {d : List (Key × D)}, IsK K cl F ca v d → IsK K cl (delF F a) ca v d
  | _, _, .nil => .nil
  | _, _, .cons h t => .cons (Is.del l h) (IsK.del l t)
theorem CellOk.del (l : Locked F a) {b : Addr} {c : Cell} {o : HO} (hb : b ≠ a) (h : CellOk K cl F H ca b c) : CellOk K cl (delF F a) (upd H a o) ca b c := by
  have eH : upd H a o b = H b := upd_ne hb
  have eF : delF F a b = F b := delF_ne hb
  cases c with
  | gone =>
    obtain ⟨o, h⟩ := h
    exact ⟨o, eH.trans h⟩
  | lst xs =>
    obtain ⟨h0, vs, h, i⟩ := h
    exact ⟨eF.trans h0, vs, eH.trans h, i.del l⟩
  | ins c fs =>
    obtain ⟨h0, dx, vs, h, i⟩ := h
    exact ⟨eF.trans h0, dx, vs, eH.trans h, i.del l⟩
  | dic kvs =>
    obtain ⟨h0, vs, h, i⟩ := h
    exact ⟨eF.trans h0, vs, eH.trans h, i.del l⟩
  | lk kvs =>
    obtain ⟨od, vs, h0, h, i⟩ := h
    exact ⟨od, vs, eF.trans h0, eH.trans h, i.del l⟩
variable {e : Ent} {σ : L2.St} {s : S} {j : Nat} {kvs : List (Key × D)} {ca' : List Addr}
/-- the entry, as it is told while the dict at a is locked -/
def lkE (e : Ent) (a : Addr) (u : HO) : Ent := ⟨upd e.F0 a u, e.H0, e.ca0⟩
theorem B.lock (b : B K cl e F H ca σ s) (hj : ca[j]? = some a) (hc : s.ce[j]? = some (.dic kvs)) (hH : H a = some (.dK us)) (hF : F a = none) (hK : IsK K cl F ca us kvs) (od : Obj) :
    B K cl (lkE e a (.frz od (.dK us))) (upd F a (.frz od (.dK us))) (upd H a (.frz od (.dK us))) ca σ ⟨s.sl, s.ce.set j (.lk kvs), s.n0⟩ ∧ Ex F (upd F a (.frz od (.dK us))) := by
  have x : Ex F (upd F a (.frz od (.dK us))) := Ex.new hF
  have h0 : e.F0 a = none := by
    cases q : e.F0 a with
    | none => rfl
    | some o =>
      have := b.exF a o q
      rw [hF] at this
      cases this
  refine ⟨{ fh := ?_, exF := ?_, keep := ?_, free := ?_, pre := b.pre, newc := b.newc, cel := ?_, len := b.len, slo := ?_, hcl := ?_, n0 := b.n0 }, x⟩
  · intro c o q
    by_cases hc : c = a
    · subst hc
      rw [upd_same] at q ⊢
      exact q
    · rw [upd_ne hc] at q ⊢
      exact b.fh c o q
  · intro c o q
    have q' : upd e.F0 a (.frz od (.dK us)) c = some o := q
    by_cases hc : c = a
    · subst hc
      rw [upd_same] at q' ⊢
      exact q'
    · rw [upd_ne hc] at q' ⊢
      exact b.exF c o q'
  · intro c o q n
    have hc : c ≠ a := fun z => by
      subst z
      rcases b.newc c (List.mem_of_getElem? hj) with w | w
      · exact n w
      · have q' : e.H0 c = some o := q
        rw [w] at q'
        cases q'
    rw [upd_ne hc]
    exact b.keep c o q n
  · intro c o q n
    have n' : upd e.F0 a (.frz od (.dK us)) c = none := n
    by_cases hc : c = a
    · subst hc
      rw [upd_same] at n'
      cases n'
    · rw [upd_ne hc] at n' ⊢
      exact b.free c o q n'
  · obtain ⟨c1, c2, c3⟩ := b.cel
    refine ⟨by rw [List.length_set]; exact c1, c2, fun i c d h1 h2 => ?_⟩
    by_cases hi : i = j
    · subst hi
      rw [hj] at h1
      cases h1
      have hlt : i < s.ce.length := (List.getElem?_eq_some_iff.mp hc).1
      have h2' : (s.ce.set i (.lk kvs))[i]? = some d := h2
      rw [List.getElem?_set_self hlt] at h2'
      cases h2'
      exact ⟨od, us, upd_same, upd_same, hK.mono x (Pre.refl ca)⟩
    · have h2' : (s.ce.set j (.lk kvs))[i]? = some d := h2
      rw [List.getElem?_set_ne (Ne.symm hi)] at h2'
      have hne : c ≠ a := fun z => by
        subst z
        have l1 := (List.getElem?_eq_some_iff.mp h1)
        have l2 := (List.getElem?_eq_some_iff.mp hj)
        exact hi ((List.getElem_inj c2).mp (l1.2.trans l2.2.symm))
      exact (c3 i c d h1 h2').mono x (fun h => by rw [upd_ne hne]; exact h) (upd_ne hne) (Pre.refl ca)
  · intro i d q
    obtain ⟨v, h1, h2⟩ := b.slo i d q
    exact ⟨v, h1, h2.mono x (Pre.refl ca)⟩
  · intro c o q
    by_cases hc : c = a
    · subst hc
      exact ⟨_, upd_same⟩
    · rw [upd_ne hc]
      exact b.hcl c o q
theorem B.unlock {od : Obj} (hF : F a = none) (h0 : e.F0 a = none) (b : B K cl (lkE e a (.frz od (.dK us))) F' H' ca' σ s) (x : Ex (upd F a (.frz od (.dK us))) F') (hj : ca'[j]? = some a) (hc : s.ce[j]? = some (.lk kvs)) :
    B K cl e (delF F' a) (upd H' a (.dK us)) ca' σ ⟨s.sl, s.ce.set j (.dic kvs), s.n0⟩ ∧ H' a = some (.frz od (.dK us)) ∧ Ex F (delF F' a) := by
  have ha : F' a = some (.frz od (.dK us)) := x a _ upd_same
  have l : Locked F' a := ⟨od, us, ha⟩
  have hH : H' a = some (.frz od (.dK us)) := b.fh a _ ha
  obtain ⟨c1, c2, c3⟩ := b.cel
  refine ⟨{ fh := ?_, exF := ?_, keep := ?_, free := ?_, pre := b.pre, newc := b.newc, cel := ?_, len := b.len, slo := ?_, hcl := ?_, n0 := b.n0 }, hH, ?_⟩
  · intro c o q
    by_cases hc : c = a
    · subst hc
      rw [delF_same] at q
      cases q
    · rw [delF_ne hc] at q
      rw [upd_ne hc]
      exact b.fh c o q
  · intro c o q
    by_cases hc : c = a
    · subst hc
      rw [h0] at q
      cases q
    · rw [delF_ne hc]
      refine b.exF c o ?_
      show upd e.F0 a _ c = some o
      rw [upd_ne hc]
      exact q
  · intro c o q n
    have hc : c ≠ a := fun z => by
      subst z
      rcases b.newc c (List.mem_of_getElem? hj) with w | w
      · exact n w
      · have w' : e.H0 c = none := w
        rw [q] at w'
        cases w'
    rw [upd_ne hc]
    exact b.keep c o q n
  · intro c o q n
    by_cases hc : c = a
    · subst hc
      exact delF_same
    · rw [delF_ne hc]
      refine b.free c o q ?_
      show upd e.F0 a _ c = none
      rw [upd_ne hc]
      exact n
  · refine ⟨by rw [List.length_set]; exact c1, c2, fun i c d h1 h2 => ?_⟩
    by_cases hi : i = j
    · subst hi
      rw [hj] at h1
      cases h1
      have hlt : i < s.ce.length := (List.getElem?_eq_some_iff.mp hc).1
      have h2' : (s.ce.set i (.dic kvs))[i]? = some d := h2
      rw [List.getElem?_set_self hlt] at h2'
      cases h2'
      obtain ⟨od', vs, g1, g2, g3⟩ := c3 i a (.lk kvs) hj hc
      rw [ha] at g1
      cases g1
      exact ⟨delF_same, us, upd_same, g3.del l⟩
    · have h2' : (s.ce.set j (.dic kvs))[i]? = some d := h2
      rw [List.getElem?_set_ne (Ne.symm hi)] at h2'
      have hne : c ≠ a := fun z => by
        subst z
        have l1 := (List.getElem?_eq_some_iff.mp h1)
        have l2 := (List.getElem?_eq_some_iff.mp hj)
        exact hi ((List.getElem_inj c2).mp (l1.2.trans l2.2.symm))
      exact (c3 i c d h1 h2').del l hne
  · intro i d q
    obtain ⟨v, h1, h2⟩ := b.slo i d q
    exact ⟨v, h1, h2.del l⟩
  · intro c o q
    by_cases hc : c = a
    · subst hc
      exact ⟨_, upd_same⟩
    · rw [upd_ne hc]
      exact b.hcl c o q
  · intro c o q
    have hc : c ≠ a := fun z => by
      subst z
      rw [hF] at q
      cases q
    rw [delF_ne hc]
    refine x c o ?_
    rw [upd_ne hc]
    exact q
end
end Dv

set_option maxRecDepth 100000
set_option maxHeartbeats 4000000
/-! a statement, an expression while a dict is locked -/
namespace Dv
open PySem PySem.Spec PyProof.Rows L2
def unlS {α : Type} (j : Nat) (s : S) (k : S → α) (no : α) : α := match s.ce[j]? with
  | some (.lk kvs) => k ⟨s.sl, s.ce.set j (.dic kvs), s.n0⟩
  | _ => no
def unlO (j : Nat) : O → O
  | .nx s => unlS j s .nx .no
  | .bk s => unlS j s .bk .no
  | .ct s => unlS j s .ct .no
  | .rt d s => unlS j s (.rt d) .no
  | .rl xs s => unlS j s (.rl xs) .no
  | _ => .no
def lokS (j : Nat) (f : DS) (s : S) : Option (List (Key × D)) → O
  | some kvs => unlO j (f ⟨s.sl, s.ce.set j (.lk kvs), s.n0⟩)
  | none => .no
def sLockD (i : Nat) (f : DS) : DS := fun s => match s.sl[i]? with
  | some (some (.rf j)) => lokS j f s (cellD s.ce[j]?)
  | _ => .no
section
variable {X : Cx} {cl : Cl} {e : Ent} {W : WX} {st : Stmt} {i : Nat} {f : DS}
theorem ps_ex {ι : Type} {t : ι → TS} (h : ∀ i, PS X st (t i)) : PS X st (fun D σ H => ∃ i, t i D σ H) := ⟨fun pins s σ H D I ⟨i, hw⟩ => (h i).run pins s σ H D I hw⟩
theorem unlS_eq {α : Type} {j : Nat} {s : S} {k : S → α} {no : α} {P : α → Prop} (h : P (unlS j s k no)) (hn : ¬ P no) : ∃ kvs, s.ce[j]? = some (.lk kvs) ∧ P (k ⟨s.sl, s.ce.set j (.dic kvs), s.n0⟩) := by
  unfold unlS at h
  cases q : s.ce[j]? with
  | none =>
    rw [q] at h
    exact absurd h hn
  | some c =>
    rw [q] at h
    cases c with
    | lk kvs => exact ⟨kvs, rfl, h⟩
    | _ => exact absurd h hn
theorem dic_at {ce : List Cell} {j : Nat} {kvs : List (Key × D)} (h : cellD ce[j]? = some kvs) : ce[j]? = some (.dic kvs) := by
  cases q : ce[j]? with
  | none =>
    rw [q] at h
    cases h
  | some c =>
    rw [q] at h
    cases c with
    | dic ys =>
      cases h
      rfl
    | _ => cases h
theorem NL.unlock {K : PySem.W.Frag} {F' H' : Hp} {ca' : List Addr} {a : Addr} {u u' : HO} {od : Obj} {us : List (Key × V)} (l : Locked F' a) (hH : H' a = some (.frz od (.dK us))) {v : V} {xs : List D} (h : NL K cl (lkE e a u) F' H' ca' v xs) : NL K cl e (delF F' a) (upd H' a u') ca' v xs := by
  obtain ⟨p, vs, rfl, h1, h2, h3, h4, h5⟩ := h
  have hne : p ≠ a := fun z => by
    subst z
    rw [hH] at h1
    cases h1
  exact ⟨p, vs, rfl, by rw [upd_ne hne]; exact h1, h2.del l, by rw [delF_ne hne]; exact h3, h4, h5⟩
theorem s_lock (h : ∀ e, PSd X cl e W st f) : PSd X cl e W st (sLockD i f) := ps_w (ps_lock (ps_ex h)) fun Dn σ H ⟨F, ca, s, b, q⟩ => by
  unfold sLockD at q
  cases z : s.sl[i]? with
  | none =>
    rw [z] at q
    exact False.elim q
  | some o =>
    rw [z] at q
    cases o with
    | none => exact False.elim q
    | some d =>
      obtain ⟨v, h1, h2⟩ := b.slo i d z
      cases d with
      | rf j =>
        have q1 : rdSK X.K cl e W F ca Dn (lokS j f s (cellD s.ce[j]?)) := q
        cases e1 : cellD s.ce[j]? with
        | none =>
          rw [e1] at q1
          exact False.elim q1
        | some kvs =>
          rw [e1] at q1
          have q2 : rdSK X.K cl e W F ca Dn (unlO j (f ⟨s.sl, s.ce.set j (.lk kvs), s.n0⟩)) := q1
          obtain ⟨a, us, rfl, ha, hF, hH, hK⟩ := dic_ok b h2 e1
          have h0 : e.F0 a = none := by
            cases w : e.F0 a with
            | none => rfl
            | some o =>
              have := b.exF a o w
              rw [hF] at this
              cases this
          refine ⟨a, .dK us, hH, trivial, fun od => ⟨lkE e a (.frz od (.dK us)), upd F a (.frz od (.dK us)), ca, _, (b.lock ha (dic_at e1) hH hF hK od).1, ?_⟩⟩
          cases w : f ⟨s.sl, s.ce.set j (.lk kvs), s.n0⟩ with
          | nx s' =>
            rw [w] at q2
            obtain ⟨kvs', hc, q3⟩ := unlS_eq (P := fun o => rdSK X.K cl e W F ca Dn o) q2 (fun z => z)
            intro σ' F' H' ca' b' x' p'
            obtain ⟨b2, hfz, x2⟩ := b'.unlock hF h0 x' (p' j a ha) hc
            exact ⟨hfz, q3 σ' _ _ ca' b2 x2 p'⟩
          | bk s' =>
            rw [w] at q2
            obtain ⟨kvs', hc, q3⟩ := unlS_eq (P := fun o => rdSK X.K cl e W F ca Dn o) q2 (fun z => z)
            intro σ' F' H' ca' b' x' p'
            obtain ⟨b2, hfz, x2⟩ := b'.unlock hF h0 x' (p' j a ha) hc
            exact ⟨hfz, q3 σ' _ _ ca' b2 x2 p'⟩
          | ct s' =>
            rw [w] at q2
            obtain ⟨kvs', hc, q3⟩ := unlS_eq (P := fun o => rdSK X.K cl e W F ca Dn o) q2 (fun z => z)
            intro σ' F' H' ca' b' x' p'
            obtain ⟨b2, hfz, x2⟩ := b'.unlock hF h0 x' (p' j a ha) hc
            exact ⟨hfz, q3 σ' _ _ ca' b2 x2 p'⟩
          | rt d s' =>
            rw [w] at q2
            obtain ⟨kvs', hc, q3⟩ := unlS_eq (P := fun o => rdSK X.K cl e W F ca Dn o) q2 (fun z => z)
            intro v σ' F' H' ca' b' x' p' i'
            obtain ⟨b2, hfz, x2⟩ := b'.unlock hF h0 x' (p' j a ha) hc
            exact ⟨hfz, q3 v σ' _ _ ca' b2 x2 p' (i'.del ⟨od, us, x' a _ upd_same⟩)⟩
          | rl xs s' =>
            rw [w] at q2
            obtain ⟨kvs', hc, q3⟩ := unlS_eq (P := fun o => rdSK X.K cl e W F ca Dn o) q2 (fun z => z)
            intro v σ' F' H' ca' b' x' p' i'
            obtain ⟨b2, hfz, x2⟩ := b'.unlock hF h0 x' (p' j a ha) hc
            exact ⟨hfz, q3 v σ' _ _ ca' b2 x2 p' (i'.unlock ⟨od, us, x' a _ upd_same⟩ hfz)⟩
          | _ =>
            rw [w] at q2
            exact False.elim q2
      | _ => exact False.elim q
def unlR (j : Nat) : R → R
  | .ok d s => unlS j s (.ok d) .no
  | .nl xs s => unlS j s (.nl xs) .no
  | _ => .no
def lokR (j : Nat) (f : DE) (s : S) : Option (List (Key × D)) → R
  | some kvs => unlR j (f ⟨s.sl, s.ce.set j (.lk kvs), s.n0⟩)
  | none => .no
def dLockD (i : Nat) (f : DE) : DE := fun s => match s.sl[i]? with
  | some (some (.rf j)) => lokR j f s (cellD s.ce[j]?)
  | _ => .no
theorem e_lock {x : Expr} {f : DE} (h : ∀ e, PEd X cl e W x f) : PEd X cl e W x (dLockD i f) := pe_w (pe_lock (pe_ex h)) fun σ H Q ⟨F, ca, s, b, q⟩ => by
  unfold dLockD at q
  cases z : s.sl[i]? with
  | none =>
    rw [z] at q
    exact False.elim q
  | some o =>
    rw [z] at q
    cases o with
    | none => exact False.elim q
    | some d =>
      obtain ⟨v, h1, h2⟩ := b.slo i d z
      cases d with
      | rf j =>
        have q1 : rdK X.K cl e W σ F ca Q (lokR j f s (cellD s.ce[j]?)) := q
        cases e1 : cellD s.ce[j]? with
        | none =>
          rw [e1] at q1
          exact False.elim q1
        | some kvs =>
          rw [e1] at q1
          have q2 : rdK X.K cl e W σ F ca Q (unlR j (f ⟨s.sl, s.ce.set j (.lk kvs), s.n0⟩)) := q1
          obtain ⟨a, us, rfl, ha, hF, hH, hK⟩ := dic_ok b h2 e1
          have h0 : e.F0 a = none := by
            cases w : e.F0 a with
            | none => rfl
            | some o =>
              have := b.exF a o w
              rw [hF] at this
              cases this
          refine ⟨a, .dK us, hH, trivial, fun od => ⟨lkE e a (.frz od (.dK us)), upd F a (.frz od (.dK us)), ca, _, (b.lock ha (dic_at e1) hH hF hK od).1, ?_⟩⟩
          cases w : f ⟨s.sl, s.ce.set j (.lk kvs), s.n0⟩ with
          | ok d s' =>
            rw [w] at q2
            obtain ⟨kvs', hc, q3⟩ := unlS_eq (P := fun o => rdK X.K cl e W σ F ca Q o) q2 (fun z => z)
            intro v F' H' ca' b' x' p' i'
            obtain ⟨b2, hfz, x2⟩ := b'.unlock hF h0 x' (p' j a ha) hc
            exact ⟨hfz, q3 v _ _ ca' b2 x2 p' (i'.del ⟨od, us, x' a _ upd_same⟩)⟩
          | nl xs s' =>
            rw [w] at q2
            obtain ⟨kvs', hc, q3⟩ := unlS_eq (P := fun o => rdK X.K cl e W σ F ca Q o) q2 (fun z => z)
            intro v F' H' ca' b' x' p' i'
            obtain ⟨b2, hfz, x2⟩ := b'.unlock hF h0 x' (p' j a ha) hc
            exact ⟨hfz, q3 v _ _ ca' b2 x2 p' (i'.unlock ⟨od, us, x' a _ upd_same⟩ hfz)⟩
          | _ =>
            rw [w] at q2
            exact False.elim q2
      | _ => exact False.elim q
end
end Dv

set_option maxRecDepth 100000
set_option maxHeartbeats 4000000
/-! walks over a locked dict -/
namespace Dv
open PySem PySem.Spec PyProof.Rows L2
section
variable {X : Cx} {cl : Cl} {F : Hp} {ca : List Addr} {a : Addr} {o : Obj} {us : List (Key × V)} {kvs : List (Key × D)}
theorem isK_get : ∀ {us : List (Key × V)} {kvs : List (Key × D)} {i : Nat} {k : Key} {d : D}, IsK X.K cl F ca us kvs → kvs[i]? = some (k, d) → ∃ v, us[i]? = some (k, v) ∧ Is X.K cl F ca v d
  | _, _, _, _, _, .nil, h => by simp at h
  | _, _, 0, _, _, .cons r t, h => by
    simp at h
    obtain ⟨rfl, rfl⟩ := h
    exact ⟨_, rfl, r⟩
  | _, _, i + 1, k, d, .cons r t, h => by
    obtain ⟨v, h1, h2⟩ := isK_get (i := i) (k := k) (d := d) t (by simpa using h)
    exact ⟨v, by simpa using h1, h2⟩
theorem is_ofKey (k : Key) : Is X.K cl F ca (kV k) (ofKey k) := by
  cases k with
  | inl i => exact .int i
  | inr s => exact .str s
def keysL (kvs : List (Key × D)) : List D := kvs.map fun p => ofKey p.1
def valsL (kvs : List (Key × D)) : List D := kvs.map fun p => p.2
def itemsL (kvs : List (Key × D)) : List D := kvs.map fun p => .tup [ofKey p.1, p.2]
theorem wk_keysL (l : F a = some (.frz o (.dK us))) (hK : IsK X.K cl F ca us kvs) : WkD X cl (Itk a o us) F ca (keysL kvs) := fun e F1 H ca1 σ s b x p _ => by
  have h1 : H a = some (.frz o (.dK us)) := (x.trans b.fh) a _ l
  refine ⟨⟨h1, by rw [isK_len hK, keysL, List.length_map]; exact Nat.le_refl _⟩, fun i d hd => ?_⟩
  rw [keysL, List.getElem?_map] at hd
  cases hp : kvs[i]? with
  | none =>
    rw [hp] at hd
    cases hd
  | some q =>
    obtain ⟨k, d0⟩ := q
    rw [hp] at hd
    cases hd
    obtain ⟨v, hv, iv⟩ := isK_get hK hp
    refine ⟨⟨h1, (List.getElem?_eq_some_iff.mp hv).1⟩, fun w H' y => ?_⟩
    obtain ⟨rfl, k', v', e1, rfl⟩ := y
    rw [hv] at e1
    cases e1
    exact ⟨F1, Ex.refl _, fun _ _ _ n => n, Ex.refl _, b, is_ofKey k⟩
theorem wk_valsL (l : F a = some (.frz o (.dK us))) (hK : IsK X.K cl F ca us kvs) : WkD X cl (Itd a o us) F ca (valsL kvs) := fun e F1 H ca1 σ s b x p _ => by
  have h1 : H a = some (.frz o (.dK us)) := (x.trans b.fh) a _ l
  refine ⟨⟨h1, by rw [isK_len hK, valsL, List.length_map]; exact Nat.le_refl _⟩, fun i d hd => ?_⟩
  rw [valsL, List.getElem?_map] at hd
  cases hp : kvs[i]? with
  | none =>
    rw [hp] at hd
    cases hd
  | some q =>
    obtain ⟨k, d0⟩ := q
    rw [hp] at hd
    cases hd
    obtain ⟨v, hv, iv⟩ := isK_get hK hp
    refine ⟨⟨h1, (List.getElem?_eq_some_iff.mp hv).1⟩, fun w H' y => ?_⟩
    obtain ⟨rfl, k', e1⟩ := y
    rw [hv] at e1
    cases e1
    exact ⟨F1, Ex.refl _, fun _ _ _ n => n, Ex.refl _, b, iv.mono x p⟩
theorem wk_itemsL (l : F a = some (.frz o (.dK us))) (hK : IsK X.K cl F ca us kvs) : WkD X cl (Iti a o us) F ca (itemsL kvs) := fun e F1 H ca1 σ s b x p _ => by
  have h1 : H a = some (.frz o (.dK us)) := (x.trans b.fh) a _ l
  refine ⟨⟨h1, by rw [isK_len hK, itemsL, List.length_map]; exact Nat.le_refl _⟩, fun i d hd => ?_⟩
  rw [itemsL, List.getElem?_map] at hd
  cases hp : kvs[i]? with
  | none =>
    rw [hp] at hd
    cases hd
  | some q =>
    obtain ⟨k, d0⟩ := q
    rw [hp] at hd
    cases hd
    obtain ⟨v, hv, iv⟩ := isK_get hK hp
    refine ⟨⟨h1, (List.getElem?_eq_some_iff.mp hv).1⟩, fun w H' y => ?_⟩
    obtain ⟨T, k', v', e1, rfl, hT, rfl⟩ := y
    rw [hv] at e1
    cases e1
    exact wk_new b hT (is_ofKey k) (iv.mono x p)
end
def cellLk : Option Cell → Option (List (Key × D))
  | some (.lk kvs) => some kvs
  | _ => none
def iLkK (g : List (Key × D) → List D) (s : S) : Option (List (Key × D)) → RI
  | some kvs => .ok (g kvs) s
  | none => .no
/-- what is walked of the locked dict in slot i -/
def iLk (g : List (Key × D) → List D) (i : Nat) : DI := fun s => match s.sl[i]? with
  | some (some (.rf j)) => iLkK g s (cellLk s.ce[j]?)
  | _ => .no
section
variable {X : Cx} {cl : Cl} {e : Ent} {W : WX} {i : Nat}
theorem lk_at {F H : Hp} {ca : List Addr} {σ : L2.St} {s : S} {g : List (Key × D) → List D} {xs : List D} {s1 : S} (b : Bx X cl e F H ca σ s) (q : iLk g i s = .ok xs s1) :
    s1 = s ∧ ∃ a od us kvs, σ[i]? = some (some (.ref a)) ∧ F a = some (.frz od (.dK us)) ∧ H a = some (.frz od (.dK us)) ∧ IsK X.K cl F ca us kvs ∧ xs = g kvs := by
  unfold iLk at q
  cases z : s.sl[i]? with
  | none =>
    rw [z] at q
    cases q
  | some o =>
    rw [z] at q
    cases o with
    | none => cases q
    | some d =>
      obtain ⟨v, h1, h2⟩ := b.slo i d z
      cases d with
      | rf j =>
        have q1 : iLkK g s (cellLk s.ce[j]?) = .ok xs s1 := q
        cases h2 with
        | rf hj =>
          obtain ⟨c, h3, h4⟩ := b.cel.at_ hj
          rw [h3] at q1
          cases c with
          | lk kvs =>
            cases q1
            obtain ⟨od, us, g1, g2, g3⟩ := h4
            exact ⟨rfl, _, od, us, kvs, h1, g1, g2, g3, rfl⟩
          | _ => cases q1
      | _ => cases q
theorem lk_or (g : List (Key × D) → List D) (i : Nat) (s : S) : (∃ xs, iLk g i s = .ok xs s) ∨ iLk g i s = .no := by
  unfold iLk
  cases s.sl[i]? with
  | none => exact .inr rfl
  | some o =>
    cases o with
    | none => exact .inr rfl
    | some d =>
      cases d with
      | rf j =>
        show (∃ xs, iLkK g s (cellLk s.ce[j]?) = .ok xs s) ∨ iLkK g s (cellLk s.ce[j]?) = .no
        cases cellLk s.ce[j]? with
        | none => exact .inr rfl
        | some kvs => exact .inl ⟨_, rfl⟩
      | _ => exact .inr rfl
theorem ic_keysL : ItC X cl e W (iKeys (tVar i)) (iLk keysL i) := ⟨fun F H ca σ s Q k Z b q go => by
  rcases lk_or keysL i s with ⟨xs, e1⟩ | e1
  · rw [e1] at q
    obtain ⟨-, a, od, us, kvs, h1, h2, h3, h4, rfl⟩ := lk_at b e1
    exact ⟨.ref a, h1, a, od, rfl, .inl ⟨us, h3, go _ _ s F H ca b (wk_keysL h2 h4) q⟩⟩
  · rw [e1] at q
    exact False.elim q⟩
theorem ic_valsL : ItC X cl e W (iVals (tVar i)) (iLk valsL i) := ⟨fun F H ca σ s Q k Z b q go => by
  rcases lk_or valsL i s with ⟨xs, e1⟩ | e1
  · rw [e1] at q
    obtain ⟨-, a, od, us, kvs, h1, h2, h3, h4, rfl⟩ := lk_at b e1
    exact ⟨.ref a, h1, a, od, us, rfl, h3, go _ _ s F H ca b (wk_valsL h2 h4) q⟩
  · rw [e1] at q
    exact False.elim q⟩
theorem ic_itemsL : ItC X cl e W (iItems (tVar i)) (iLk itemsL i) := ⟨fun F H ca σ s Q k Z b q go => by
  rcases lk_or itemsL i s with ⟨xs, e1⟩ | e1
  · rw [e1] at q
    obtain ⟨-, a, od, us, kvs, h1, h2, h3, h4, rfl⟩ := lk_at b e1
    exact ⟨.ref a, h1, a, od, us, rfl, h3, go _ _ s F H ca b (wk_itemsL h2 h4) q⟩
  · rw [e1] at q
    exact False.elim q⟩
theorem drop_at {α : Type} {xs : List α} {i : Nat} {x : α} (h : xs[i]? = some x) : xs.drop i = x :: xs.drop (i + 1) := by
  obtain ⟨hl, he⟩ := List.getElem?_eq_some_iff.mp h
  rw [List.drop_eq_getElem_cons hl, he]
theorem isK_getV {F : Hp} {ca : List Addr} : ∀ {us : List (Key × V)} {kvs : List (Key × D)} {i : Nat} {k : Key} {v : V}, IsK X.K cl F ca us kvs → us[i]? = some (k, v) → ∃ d, kvs[i]? = some (k, d) ∧ Is X.K cl F ca v d
  | _, _, _, _, _, .nil, h => by simp at h
  | _, _, 0, _, _, .cons r t, h => by
    simp at h
    obtain ⟨rfl, rfl⟩ := h
    exact ⟨_, rfl, r⟩
  | _, _, i + 1, k, v, .cons r t, h => by
    obtain ⟨d, h1, h2⟩ := isK_getV (i := i) (k := k) (v := v) t (by simpa using h)
    exact ⟨d, by simpa using h1, h2⟩
theorem it_itemsL : ItD X cl e W (iItems (tVar i)) (iLk itemsL i) := ⟨fun F H ca σ s g t body Dn b ht q => by
  rcases lk_or itemsL i s with ⟨xs, e1⟩ | e1
  · rw [e1] at q
    have q1 : rdSK X.K cl e W F ca Dn (loop t body xs s) := q
    obtain ⟨-, a, od, us, kvs, h1, h2, h3, h4, rfl⟩ := lk_at b e1
    refine ⟨.ref a, h1, a, od, us, rfl, h3, ?_⟩
    have hlen : us.length = (itemsL kvs).length := by rw [isK_len h4, itemsL, List.length_map]
    refine ⟨fun i m σ H => m = us.length - i ∧ i ≤ us.length ∧ Mid X cl e W t body Dn F ca ((itemsL kvs).drop i) σ H, ⟨us.length, rfl, Nat.zero_le _, ⟨F, ca, s, b, Ex.refl F, Pre.refl ca, q1⟩⟩, ?_⟩
    rintro n m σ H ⟨rfl, hle, M⟩
    obtain ⟨F1, ca1, s1, b1, x, p, q2⟩ := M
    have hq : H a = some (.frz od (.dK us)) := (x.trans b1.fh) a _ h2
    by_cases hlt : n < us.length
    · refine .inr ⟨⟨hq, hlt⟩, fun σ' H' => Mid X cl e W t body Dn F ca ((itemsL kvs).drop (n + 1)) σ' H', fun σ' H' M' => ⟨us.length - (n + 1), by omega, rfl, hlt, M'⟩, fun w H' y => ?_⟩
      obtain ⟨T, k, v, hkv, rfl, hT, rfl⟩ := y
      obtain ⟨d, hd, iv⟩ := isK_getV h4 hkv
      have hi : (itemsL kvs)[n]? = some (.tup [ofKey k, d]) := by
        rw [itemsL, List.getElem?_map, hd] <;> rfl
      rw [drop_at hi] at q2
      exact Mid.pair ht b1 x p hT (is_ofKey k) (iv.mono x p) q2
    · have e2 : n = us.length := by omega
      subst e2
      refine .inl ⟨⟨hq, Nat.le_refl _⟩, ?_⟩
      rw [hlen, List.drop_length] at q2
      exact q2 σ F1 H ca1 b1 (Ex.refl F1) (Pre.refl ca1)
  · rw [e1] at q
    exact False.elim q⟩
theorem it_keysL : ItD X cl e W (iKeys (tVar i)) (iLk keysL i) := ⟨fun F H ca σ s g t body Dn b ht q => by
  rcases lk_or keysL i s with ⟨xs, e1⟩ | e1
  · rw [e1] at q
    have q1 : rdSK X.K cl e W F ca Dn (loop t body xs s) := q
    obtain ⟨-, a, od, us, kvs, h1, h2, h3, h4, rfl⟩ := lk_at b e1
    refine ⟨.ref a, h1, a, od, rfl, .inl ⟨us, h3, ?_⟩⟩
    have hlen : us.length = (keysL kvs).length := by rw [isK_len h4, keysL, List.length_map]
    refine ⟨fun i m σ H => m = us.length - i ∧ i ≤ us.length ∧ Mid X cl e W t body Dn F ca ((keysL kvs).drop i) σ H, ⟨us.length, rfl, Nat.zero_le _, ⟨F, ca, s, b, Ex.refl F, Pre.refl ca, q1⟩⟩, ?_⟩
    rintro n m σ H ⟨rfl, hle, M⟩
    obtain ⟨F1, ca1, s1, b1, x, p, q2⟩ := M
    have hq : H a = some (.frz od (.dK us)) := (x.trans b1.fh) a _ h2
    by_cases hlt : n < us.length
    · refine .inr ⟨⟨hq, hlt⟩, fun σ' H' => Mid X cl e W t body Dn F ca ((keysL kvs).drop (n + 1)) σ' H', fun σ' H' M' => ⟨us.length - (n + 1), by omega, rfl, hlt, M'⟩, fun w H' y => ?_⟩
      obtain ⟨rfl, k, v, hkv, rfl⟩ := y
      obtain ⟨d, hd, iv⟩ := isK_getV h4 hkv
      have hi : (keysL kvs)[n]? = some (ofKey k) := by
        rw [keysL, List.getElem?_map, hd] <;> rfl
      rw [drop_at hi] at q2
      exact mid_turn ht b1 x p (is_ofKey k) q2
    · have e2 : n = us.length := by omega
      subst e2
      refine .inl ⟨⟨hq, Nat.le_refl _⟩, ?_⟩
      rw [hlen, List.drop_length] at q2
      exact q2 σ F1 H ca1 b1 (Ex.refl F1) (Pre.refl ca1)
  · rw [e1] at q
    exact False.elim q⟩
end
end Dv

set_option maxRecDepth 100000
set_option maxHeartbeats 4000000
/-! d[k], d locked or not -/
namespace Dv
open PySem PySem.Spec PyProof.Rows L2
def cellR : Option Cell → Option (List (Key × D))
  | some (.dic kvs) => some kvs
  | some (.lk kvs) => some kvs
  | _ => none
section
variable {X : Cx} {cl : Cl} {e : Ent} {W : WX}
theorem dicR_ok {F H : Hp} {ca : List Addr} {σ : L2.St} {s : S} {v : V} {j : Nat} {kvs : List (Key × D)} (b : Bx X cl e F H ca σ s) (h : Is X.K cl F ca v (.rf j)) (q : cellR s.ce[j]? = some kvs) : ∃ a vs, v = .ref a ∧ (H a = some (.dK vs) ∨ ∃ o, H a = some (.frz o (.dK vs))) ∧ IsK X.K cl F ca vs kvs := by
  cases h with
  | rf hj =>
    obtain ⟨c, h1, h2⟩ := b.cel.at_ hj
    rw [h1] at q
    cases c with
    | dic ys =>
      cases q
      obtain ⟨hF, vs, h3, h4⟩ := h2
      exact ⟨_, vs, rfl, .inl h3, h4⟩
    | lk ys =>
      cases q
      obtain ⟨od, vs, _, h3, h4⟩ := h2
      exact ⟨_, vs, rfl, .inr ⟨od, h3⟩, h4⟩
    | _ => cases q
def subA (s : S) : D → D → R
  | .rf j, y => match cellR s.ce[j]?, keyD y with
    | some kvs, some k => poK s (match valKD kvs k with
      | some d => .v d
      | none => .no)
    | _, _ => .no
  | _, _ => .no
def dSubA (fo fk : DE) : DE := fun s => bindR (fo s) fun o s1 => bindR (fk s1) fun y s2 => subA s2 o y
theorem d_suba {t0 : Expr} {fo fk : DE} (hst : PE X t0 (tDGet (rd X.K cl e W fo) (rd X.K cl e W fk))) : PEd X cl e W t0 (dSubA fo fk) :=
  pe_w hst fun σ H Q ⟨F, ca, s, b, q⟩ => by
    refine use_rd b q fun v o s1 F1 H1 ca1 b1 i1 x1 p1 q1 => ?_
    refine use_rd b1 q1 fun w y s2 F2 H2 ca2 b2 i2 x2 p2 q2 => ?_
    cases o with
    | rf j =>
      have q4 : rdK X.K cl e W σ F2 ca2 Q (match cellR s2.ce[j]?, keyD y with
        | some kvs, some k => poK s2 (match valKD kvs k with
          | some d => .v d
          | none => .no)
        | _, _ => .no) := q2
      cases e1 : cellR s2.ce[j]? with
      | none =>
        rw [e1] at q4
        exact False.elim q4
      | some kvs =>
        rw [e1] at q4
        cases e2 : keyD y with
        | none =>
          rw [e2] at q4
          exact False.elim q4
        | some k =>
          rw [e2] at q4
          obtain ⟨a, vs, rfl, hH, hi⟩ := dicR_ok b2 (i1.mono x2 p2) e1
          have q4 : rdK X.K cl e W σ F2 ca2 Q (poK s2 (match valKD kvs k with
            | some d => .v d
            | none => .no)) := q4
          cases e3 : valKD kvs k with
          | none =>
            rw [e3] at q4
            exact False.elim q4
          | some d =>
            rw [e3] at q4
            obtain ⟨w', hw, iw⟩ := (isK_val (k := k) hi).2 d e3
            exact ⟨a, w', rfl, .inl ⟨vs, k, hH, keyD_ok i2 e2, hw.symm⟩, q4 _ F2 H2 ca2 b2 (Ex.refl F2) (Pre.refl ca2) iw⟩
    | _ => exact False.elim q2
end
end Dv

set_option maxRecDepth 100000
set_option maxHeartbeats 4000000
/-! {k: v for .. in ..} -/
namespace Dv
open PySem PySem.Spec PyProof.Rows L2
def newD (kvs : List (Key × D)) (s : S) : R := .ok (.rf s.ce.length) ⟨s.sl, s.ce ++ [.dic kvs], s.n0⟩
def putR (k : List (Key × D) → S → R) (acc : List (Key × D)) (d : D) (s : S) : Option Key → R
  | some ky => k (putKD acc ky d) s
  | none => .no
def compD (gd : S → Bool) (t : DT) (vs : List Nat) (c : DB) (fk f : DE) : List D → List (Key × D) → S → R
  | [], acc, s => if gd s = true then newD acc s else .no
  | d :: ds, acc, s => if gd s = true then tgR (fun s1 => okB (c s1) fun b s2 => if b = true then okR (fk s2) (fun y s3 => okR (f s3) (fun x s4 => if acc.length < 100000 then putR (compD gd t vs c fk f ds) acc x (outS s s4) (keyD y) else .no)) else compD gd t vs c fk f ds acc (outS s s2)) (t d (inS vs s)) else .no
def dDcomp (it : DI) (t : DT) (vs : List Nat) (c : DB) (fk f : DE) : DE := fun s => bindIR (it s) fun xs s1 => compD gYes t vs c fk f xs [] s1
section
variable {X : Cx} {cl : Cl} {e : Ent} {W : WX} {t : DT} {vs : List Nat} {c : DB} {fk f : DE} {g : TG}
theorem dcomp_core {σ : L2.St} {Q : VK} {gd : S → Bool} {J : It} {xs : List D} {s1 : S} {F1 H1 : Hp} {ca1 : List Addr} (hg : TgC X cl g t vs) (b1 : Bx X cl e F1 H1 ca1 σ s1) (wk : WkG X cl gd J F1 ca1 xs) (q1 : rdK X.K cl e W σ F1 ca1 Q (compD gd t vs c fk f xs [] s1)) :
    tDc (fun _ H Z => Z J H) g (fun σ H Q => ∃ e', rdB X.K cl e' W0 c σ H Q) (fun σ H Q => ∃ e', rd X.K cl e' W0 fk σ H Q) (fun σ H Q => ∃ e', rd X.K cl e' W0 f σ H Q) vs σ H1 Q := by
  intro Dl hD
  -- between two turns
  refine ⟨fun i m H => m = xs.length - i ∧ i ≤ xs.length ∧ ∃ F ca s acc va, Bx X cl e F H ca σ s ∧ Ex F1 F ∧ Pre ca1 ca ∧ H Dl = some (.dK va) ∧ IsK X.K cl F ca va acc ∧ F Dl = none ∧ Dl ∉ ca ∧ e.H0 Dl = none ∧ rdK X.K cl e W σ F ca Q (compD gd t vs c fk f (xs.drop i) acc s),
    ⟨xs.length, rfl, Nat.zero_le _, F1, ca1, s1, [], [], b1.laid hD, Ex.refl _, Pre.refl _, upd_same, .nil, b1.notF hD, b1.notca hD, b1.notH0 hD, q1⟩, ?_⟩
  rintro i m H2 ⟨rfl, hle, F2, ca2, s2, acc, va, b2, x2, p2, hDl, iacc, hF2, hc2, h02, q2⟩
  have hgd : gd s2 = true := by
    cases z : gd s2 with
    | true => rfl
    | false =>
      exfalso
      cases w : xs.drop i with
      | nil =>
        rw [w] at q2
        have q3 : rdK X.K cl e W σ F2 ca2 Q (if gd s2 = true then newD acc s2 else .no) := q2
        rw [z, if_neg (by decide)] at q3
        exact q3
      | cons d ds =>
        rw [w] at q2
        unfold compD at q2
        rw [z, if_neg (by decide)] at q2
        exact q2
  obtain ⟨wstop, wgo⟩ := wk e F2 H2 ca2 σ s2 b2 x2 p2 hgd
  by_cases hlt : i < xs.length
  · have hd : xs[i]? = some xs[i] := List.getElem?_eq_getElem hlt
    obtain ⟨go1, go2⟩ := wgo i _ hd
    refine .inr ⟨go1, fun H' => ∃ F ca s acc va, Bx X cl e F H' ca σ s ∧ Ex F1 F ∧ Pre ca1 ca ∧ H' Dl = some (.dK va) ∧ IsK X.K cl F ca va acc ∧ F Dl = none ∧ Dl ∉ ca ∧ e.H0 Dl = none ∧ rdK X.K cl e W σ F ca Q (compD gd t vs c fk f (xs.drop (i + 1)) acc s),
      fun H' r => ⟨xs.length - (i + 1), by omega, rfl, hlt, r⟩, fun x H3 y => ?_⟩
    obtain ⟨F3, x3, fr3, xh3, b3, i3⟩ := go2 x H3 y
    have hDl3 := xh3 Dl _ hDl
    have hF3 := fr3 Dl _ hDl hF2
    rw [List.drop_eq_getElem_cons hlt] at q2
    unfold compD at q2
    rw [if_pos hgd] at q2
    have q3 : rdK X.K cl e W σ F2 ca2 Q (tgR (fun s1 => okB (c s1) fun b s3 => if b = true then okR (fk s3) (fun y s4 => okR (f s4) (fun x s5 => if acc.length < 100000 then putR (compD gd t vs c fk f (xs.drop (i + 1))) acc x (outS s2 s5) (keyD y) else .no)) else compD gd t vs c fk f (xs.drop (i + 1)) acc (outS s2 s3)) (t xs[i] (inS vs s2))) := q2
    -- the block's start
    have bi : Bx X cl ⟨F3, H3, ca2⟩ F3 H3 ca2 (wipe σ vs) (inS vs s2) :=
      ⟨b3.fh, Ex.refl _, fun _ _ q _ => q, fun _ _ _ n => n, Pre.refl _, fun _ h => .inl h, b3.cel, by show (wipeD s2.sl vs).length = (wipe σ vs).length; rw [wipeD_len, wipe_length]; exact b3.len,
        fun k d hk => by
          obtain ⟨h1, h2⟩ := wipeD_some hk
          obtain ⟨v, h3, h4⟩ := b3.slo k d h1
          exact ⟨v, wipe_keep h2 h3, h4⟩, fun _ o q => ⟨o, q⟩, b3.cel.1⟩
    cases e1 : t xs[i] (inS vs s2) with
    | none =>
      rw [e1] at q3
      exact False.elim q3
    | some s3 =>
      rw [e1] at q3
      have q4 : rdK X.K cl e W σ F2 ca2 Q (okB (c s3) fun b s3 => if b = true then okR (fk s3) (fun y s4 => okR (f s4) (fun x s5 => if acc.length < 100000 then putR (compD gd t vs c fk f (xs.drop (i + 1))) acc x (outS s2 s5) (keyD y) else .no)) else compD gd t vs c fk f (xs.drop (i + 1)) acc (outS s2 s3)) := q3
      refine hg ⟨F3, H3, ca2⟩ F3 H3 ca2 (wipe σ vs) (inS vs s2) s3 x _ bi i3 e1 _ fun σ' b4 l4 w4 => ?_
      refine ⟨?_, ⟨F3, H3, ca2⟩, F3, ca2, s3, b4, ?_⟩
      · refine wipe_ext (by rw [l4, wipe_length]) fun j hj => ?_
        rw [w4 j hj]
        have gen : ∀ (ρ : L2.St) (ws : List Nat), j ∉ ws → (wipe ρ ws)[j]? = ρ[j]? := by
          intro ρ ws
          induction ws with
          | nil => intro _; rfl
          | cons w ws ih =>
            intro hn
            unfold wipe
            rw [List.getElem?_set_ne (fun z => hn (by rw [z]; exact List.mem_cons_self))]
            exact ih fun z => hn (List.mem_cons_of_mem _ z)
        exact gen σ vs hj
      cases e2 : c s3 with
      | ok bb s4 =>
        rw [e2] at q4
        intro F5 H5 ca5 b5 x5 p5
        have keepD : H5 Dl = some (.dK va) := b5.keep Dl _ hDl3 hc2
        have keepF : F5 Dl = none := b5.free Dl _ hDl3 hF3
        have keepC : Dl ∉ ca5 := fun hm => by
          rcases b5.newc Dl hm with z | z
          · exact hc2 z
          · rw [show (Ent.H0 ⟨F3, H3, ca2⟩) Dl = H3 Dl from rfl, hDl3] at z
            cases z
        cases bb with
        | false =>
          rw [if_neg (by decide)]
          have q5 : rdK X.K cl e W σ F2 ca2 Q (compD gd t vs c fk f (xs.drop (i + 1)) acc (outS s2 s4)) := q4
          have xa := x3.trans x5
          exact ⟨F5, ca5, outS s2 s4, acc, va, b3.block b5, x2.trans xa, p2.trans p5, keepD, iacc.mono xa p5, keepF, keepC, h02, rdK.back xa p5 q5⟩
        | true =>
          rw [if_pos rfl]
          have q5 : rdK X.K cl e W σ F2 ca2 Q (okR (fk s4) (fun y s4 => okR (f s4) (fun x s5 => if acc.length < 100000 then putR (compD gd t vs c fk f (xs.drop (i + 1))) acc x (outS s2 s5) (keyD y) else .no))) := q4
          refine ⟨⟨F3, H3, ca2⟩, F5, ca5, s4, b5, ?_⟩
          cases e0 : fk s4 with
          | ok d0 s0 =>
            rw [e0] at q5
            intro v0 F0 H0 ca0 b0 x0 p0 i0
            have q50 : rdK X.K cl e W σ F2 ca2 Q (okR (f s0) (fun x s5 => if acc.length < 100000 then putR (compD gd t vs c fk f (xs.drop (i + 1))) acc x (outS s2 s5) (keyD d0) else .no)) := q5
            refine ⟨⟨F3, H3, ca2⟩, F0, ca0, s0, b0, ?_⟩
            cases e3 : f s0 with
            | ok d6 s6 =>
              rw [e3] at q50
              intro v6 F6 H6 ca6 b6 x6 p6 i6
              have q6 : rdK X.K cl e W σ F2 ca2 Q (if acc.length < 100000 then putR (compD gd t vs c fk f (xs.drop (i + 1))) acc d6 (outS s2 s6) (keyD d0) else .no) := q50
              by_cases hz : acc.length < 100000
              · rw [if_pos hz] at q6
                cases ek : keyD d0 with
                | none =>
                  rw [ek] at q6
                  exact False.elim q6
                | some ky =>
                  rw [ek] at q6
                  have q6 : rdK X.K cl e W σ F2 ca2 Q (compD gd t vs c fk f (xs.drop (i + 1)) (putKD acc ky d6) (outS s2 s6)) := q6
                  have keepD6 : H6 Dl = some (.dK va) := b6.keep Dl _ hDl3 hc2
                  have keepF6 : F6 Dl = none := b6.free Dl _ hDl3 hF3
                  have keepC6 : Dl ∉ ca6 := fun hm => by
                    rcases b6.newc Dl hm with z | z
                    · exact hc2 z
                    · rw [show (Ent.H0 ⟨F3, H3, ca2⟩) Dl = H3 Dl from rfl, hDl3] at z
                      cases z
                  have xa := ((x3.trans x5).trans x0).trans x6
                  have pa := (p5.trans p0).trans p6
                  have bb := b3.block b6
                  have i7 := isK_put (k := ky) (iacc.mono xa pa) i6
                  refine ⟨va, ky, keyD_ok i0 ek, keepD6, ?_, F6, ca6, outS s2 s6, putKD acc ky d6, putK va ky v6, ?_, x2.trans xa, p2.trans pa, upd_same, i7, keepF6, keepC6, h02, rdK.back xa pa q6⟩
                  · rw [isK_len iacc]
                    exact Nat.lt_of_lt_of_le hz (by decide)
                  · exact { fh := fun a o h => by rw [upd_ne (ne_of_none h keepF6)]; exact bb.fh a o h
                            exF := bb.exF
                            keep := fun a o h n => by rw [upd_ne (ne_of_none h h02)]; exact bb.keep a o h n
                            free := bb.free
                            pre := bb.pre
                            newc := bb.newc
                            cel := ⟨bb.cel.1, bb.cel.2.1, fun j a y h1 h2 => (bb.cel.2.2 j a y h1 h2).mono (Ex.refl _) id (upd_ne fun z => keepC6 (z ▸ List.mem_of_getElem? h1)) (Pre.refl _)⟩
                            len := bb.len
                            slo := bb.slo
                            hcl := fun a o h => by
                              obtain ⟨o', z⟩ := bb.hcl a o h
                              exact ⟨o', by rw [upd_ne (ne_of_none h h02)]; exact z⟩
                            n0 := bb.n0 }
              · rw [if_neg hz] at q6
                exact False.elim q6
            | _ =>
              rw [e3] at q50
              exact False.elim q50
          | _ =>
            rw [e0] at q5
            exact False.elim q5
      | _ =>
        rw [e2] at q4
        exact False.elim q4
  · have e1 : i = xs.length := by omega
    subst e1
    refine .inl ⟨wstop, ?_⟩
    rw [List.drop_length] at q2
    unfold compD at q2
    rw [if_pos hgd] at q2
    have q3 : rdK X.K cl e W σ F2 ca2 Q (newD acc s2) := q2
    exact q3 (.ref Dl) F2 H2 (ca2 ++ [Dl]) (b2.cell (c := .dic acc) ⟨hF2, va, hDl, iacc⟩ hc2 h02) (Ex.refl _) (Pre.app _ _) (.rf (pre_last b2.cel.1))
theorem rd_dcomp {wi : TI} {it : DI} {σ : L2.St} {H : Hp} {Q : VK} (hi : ItC X cl e W wi it) (hg : TgC X cl g t vs) (h : rd X.K cl e W (dDcomp it t vs c fk f) σ H Q) :
    tDc wi g (fun σ H Q => ∃ e', rdB X.K cl e' W0 c σ H Q) (fun σ H Q => ∃ e', rd X.K cl e' W0 fk σ H Q) (fun σ H Q => ∃ e', rd X.K cl e' W0 f σ H Q) vs σ H Q := by
  obtain ⟨F, ca, s, b, q⟩ := h
  exact hi.run F H ca σ s Q _ _ b q fun J xs s1 F1 H1 ca1 b1 wk q1 => dcomp_core hg b1 wk q1
theorem d_dc {kx vx tgx iter : Expr} {ifs : List Expr} {scope : Scope} {own : List (Str × Nat)} {pos : Pos} {wi : TI} {it : DI} (hi : ItC X cl e W wi it) (hg : TgC X cl g t (own.map (·.2)))
    (hp : PE X (.DictComp kx vx [⟨tgx, iter, ifs, 0⟩] scope pos) (tDc wi g (fun σ H Q => ∃ e', rdB X.K cl e' W0 c σ H Q) (fun σ H Q => ∃ e', rd X.K cl e' W0 fk σ H Q) (fun σ H Q => ∃ e', rd X.K cl e' W0 f σ H Q) (own.map (·.2)))) :
    PEd X cl e W (.DictComp kx vx [⟨tgx, iter, ifs, 0⟩] scope pos) (dDcomp it t (own.map (·.2)) c fk f) := pe_w hp fun _ _ _ q => rd_dcomp hi hg q
end
end Dv

set_option maxRecDepth 100000
set_option maxHeartbeats 4000000
/-! try; what a caught exception is asked -/
namespace Dv
open PySem PySem.Spec PyProof.Rows L2

/-! ### classes of exceptions, two and two -/
section
variable {K : PySem.W.Frag} {C E : Addr} {b : Bool}
/-- what is wanted of a class that is asked for -/
structure AskC (K : PySem.W.Frag) (C : Addr) : Prop where
  hb : PySem.W.subIn K (.ref C) (.type "BaseException") = some true
  hd : PySem.W.hasDictIn K C = true
  ht : PySem.W.typeIn K (.ref C) = some (.type "type")
theorem AskC.cls (a : AskC K C) (h : PySem.W.subIn K (.ref E) (.ref C) = some b) : PySem.W.kitCls K (.ref E) (.ref C) = some b := by
  obtain ⟨cd, hc, _⟩ := PySem.W.any_some a.hd
  have e2 : ((PySem.W.clsIn K C).isSome && PySem.W.typeIn K (.ref C) == some (.type "type")) = true := by rw [hc, a.ht] <;> rfl
  exact (if_pos e2).trans h
theorem AskC.exm (a : AskC K C) (h : PySem.W.subIn K (.ref E) (.ref C) = some b) : PySem.W.exmOne K (.ref E) (.ref C) = some b := by
  have e1 : (PySem.W.subIn K (.ref C) (.type "BaseException") == some true) = true := by rw [a.hb] <;> rfl
  exact (if_pos e1).trans (a.cls h)
theorem AskC.is_t (a : AskC K C) (h : PySem.W.subIn K (.ref E) (.ref C) = some true) : PySem.W.kitOne K (.ref E) (.ref C) = some true := by
  unfold PySem.W.kitOne
  split
  · rfl
  · exact a.cls h
theorem AskC.is_f (a : AskC K C) (h : PySem.W.subIn K (.ref E) (.ref C) = some false) (hs : PySem.W.subIn K (.ref E) (.ref E) = some true) : PySem.W.kitOne K (.ref E) (.ref C) = some false := by
  unfold PySem.W.kitOne
  split
  · rename_i z
    have e1 : Value.ref E = Value.ref C := beq_iff_eq.mp z
    rw [← e1, hs] at h
    cases h
  · exact a.cls h
theorem is_ve (h : PySem.W.subIn K (.ref E) (.type "ValueError") = some true) : PySem.W.kitOne K (.ref E) (.type "ValueError") = some true := by
  unfold PySem.W.kitOne
  rw [if_neg (by simp)]
  have e : PySem.W.kitMeta "ValueError" = true := by decide +kernel
  unfold PySem.W.kitCls
  dsimp only
  rw [if_pos e]
  exact h
theorem any_nil {t : Value} : PySem.W.kitAny K t [] = some false := rfl
theorem any_f {t c : Value} {r : List Value} (h : PySem.W.kitOne K t c = some false) (q : PySem.W.kitAny K t r = some b) : PySem.W.kitAny K t (c :: r) = some b := by
  show (match PySem.W.kitOne K t c with
    | some true => some true
    | some false => PySem.W.kitAny K t r
    | none => none) = _
  rw [h]
  exact q
theorem any_t {t c : Value} {r : List Value} (h : PySem.W.kitOne K t c = some true) : PySem.W.kitAny K t (c :: r) = some true := by
  show (match PySem.W.kitOne K t c with
    | some true => some true
    | some false => PySem.W.kitAny K t r
    | none => none) = _
  rw [h]
end
/-- a table by class number -/
inductive Tb (P : Nat → Bool → Prop) : List (Nat × Bool) → Prop
  | nil : Tb P []
  | cons {c : Nat} {b : Bool} {r : List (Nat × Bool)} : P c b → Tb P r → Tb P ((c, b) :: r)
theorem Tb.get {P : Nat → Bool → Prop} {l : List (Nat × Bool)} (t : Tb P l) {c : Nat} {b : Bool} (h : l.lookup c = some b) : P c b := by
  induction t with
  | nil => cases h
  | @cons c' b' r p t ih =>
    rw [List.lookup_cons] at h
    by_cases e : c = c'
    · subst e
      simp at h
      subst h
      exact p
    · rw [show (c == c') = false from by simpa using e] at h
      exact ih h

/-! ### isinstance(x, C), isinstance(x, (C, ..)), x.f of a caught one -/
section
variable {X : Cx} {pins : List (Addr × Obj)} {σ : L2.St} {H : Hp} {s : Shared}
/-- its dict is told of, where it has one -/
def XdO (H : Hp) (d : Option Addr) : Prop := d = none ∨ ∃ dd fs, d = some dd ∧ H dd = some (.xd fs)
theorem xo_inst {a C : Addr} {d : Option Addr} (I : Inv X pins σ H s) (h : H a = some (XoO (.ref C) d a)) (q : XdO H d) : ∃ o od, PySem.W.InstAt s.heap a o C od := by
  obtain ⟨⟨o, vs, e1, z, e2⟩, _, _⟩ := I.hok a _ h
  have no : PySem.W.notCls o = true := by unfold PySem.W.notCls; rw [e2] <;> rfl
  rcases q with rfl | ⟨dd, fs, rfl, e3⟩
  · exact ⟨o, none, e1, z.1, no, by rw [z.2]; trivial⟩
  · have hx : ObjOk X.prog X.w H s.heap dd (.xd fs) := I.hok dd _ e3
    obtain ⟨mA, hns, _⟩ := hx
    obtain ⟨od, ho, _⟩ := lookIn_ns hns
    exact ⟨o, some od, e1, z.1, no, by rw [z.2]; exact ho⟩
def rIsX (K : PySem.W.Frag) : List V → Hp → VK → Prop := fun xs H Q => ∃ (a C : Addr) (d : Option Addr) (c : V) (u : Value) (b : Bool), xs = [.ref a, c] ∧ H a = some (XoO (.ref C) d a) ∧ XdO H d ∧ ExcC K C ∧ (∀ z, RelV c z → z = u) ∧ PySem.W.kitOne K (.ref C) u = some b ∧ Q (.bl b) H
def rIsXT (K : PySem.W.Frag) : List V → Hp → VK → Prop := fun xs H Q => ∃ (a C p : Addr) (d : Option Addr) (cs : List V) (us : List Value) (b : Bool), xs = [.ref a, .ref p] ∧ H a = some (XoO (.ref C) d a) ∧ XdO H d ∧ ExcC K C ∧ H p = some (.tup cs) ∧ (∀ zs, Vals cs zs → zs = us) ∧
  PySem.W.kitAny K (.ref C) us = some b ∧ Q (.bl b) H
theorem exc_kit {K : PySem.W.Frag} {C x : Addr} {o : Obj} {od : Option Obj} (T : ExcC K C) : PySem.W.KitX K (.ref x) (.ref C) (fun h => PySem.W.InstAt h x o C od) :=
  PySem.W.kitx_exc (by
    obtain ⟨cd, hc, _⟩ := PySem.W.any_some T.hd
    rw [hc] <;> rfl) T.hg T.hk T.hs T.ha T.hn T.ht T.hm
theorem call_isX : CallR X (.builtin "isinstance") (rIsX X.K) := by
  intro pins s σ H xs us Q I r h
  obtain ⟨a, C, d, c, u, b, rfl, h1, h2, T, hu, hk, q⟩ := h
  cases r with
  | cons rx rr =>
    cases rr with
    | cons rt rr =>
      cases rr
      cases rx
      have ec := hu _ rt
      subst ec
      obtain ⟨o, od, J⟩ := xo_inst I h1 h2
      exact PySem.W.kia_one (exc_kit T) I.kIn J hk (fun z => nomatch z) fun tk => ⟨.bl b, H, I.kept (t' := tk) fun _ _ z => z, rfl, q⟩
theorem call_isXT : CallR X (.builtin "isinstance") (rIsXT X.K) := by
  intro pins s σ H xs us Q I r h
  obtain ⟨a, C, p, d, cs, zs, b, rfl, h1, h2, T, hp, hu, hk, q⟩ := h
  cases r with
  | cons rx rr =>
    cases rr with
    | cons rt rr =>
      cases rr
      cases rx
      cases rt
      obtain ⟨o, od, J⟩ := xo_inst I h1 h2
      have hx : ObjOk X.prog X.w H s.heap p (.tup cs) := I.hok p _ hp
      obtain ⟨_, its, hv, o2, e1, e2, n, e3⟩ := hx
      have ei := hu _ hv
      subst ei
      obtain ⟨c2, d2, dt2, sl2⟩ := o2
      dsimp only at e2 e3
      subst e2 e3
      exact PySem.W.kia_tup (exc_kit T) I.kIn J e1 hk (fun z => nomatch z) fun tk => ⟨.bl b, H, I.kept (t' := tk) fun _ _ z => z, rfl, q⟩
/-- x.f -/
def tXg (K : PySem.W.Frag) (n : Str) (te : TE) : TE := fun σ H Q => te σ H fun x H1 => ∃ (a C dd : Addr) (fs : List (Str × V)) (v : V), x = .ref a ∧ H1 a = some (XoO (.ref C) (some dd) a) ∧ H1 dd = some (.xd fs) ∧ fs.lookup n = some v ∧ XfC K C ∧ PySem.W.findIn K (.ref C) n = some none ∧ Q v H1
theorem pe_xg {e : Expr} {te : TE} {pos : Pos} {n : Str} (he : PE X e te) (hb : attributeBase e n X.env (eval e X.env) = eval e X.env := by rfl) : PE X (.Attribute e n pos) (tXg X.K n te) := by
  refine ⟨fun pins s σ H Q I h => ?_⟩
  refine attr_of hb (thn (he.run pins s σ H _ I h) fun u s1 hh => ?_)
  obtain ⟨x, H1, I1, rx, a, C, dd, fs, v, ex, h1, h2, l, T, hno, q⟩ := hh
  subst ex
  obtain rfl : u = Value.ref a := rx
  obtain ⟨⟨oe, vs, e1, z, e2⟩, _, _⟩ := I1.hok a _ h1
  have hx : ObjOk X.prog X.w H1 s1.heap dd (.xd fs) := I1.hok dd _ h2
  obtain ⟨mA, hns, hr⟩ := hx
  obtain ⟨od, ho, hl⟩ := lookIn_ns hns
  obtain ⟨y, hy, ry⟩ := RelO.some_of (v := v) (o := mA n) (by rw [← l]; exact hr n)
  have J : PySem.W.InstAt s1.heap a oe C (some od) := ⟨e1, z.1, by unfold PySem.W.notCls; rw [e2] <;> rfl, by rw [z.2]; exact ho⟩
  exact HandSPX.exc_get I1.kIn J T.ga T.gg T.exC (PySem.W.findObj_own T.hdC hno rfl (by rw [hl, hy])) (handed_of ry) ⟨v, H1, I1.tok _, ry, q⟩
end
/-! ### by data -/
def isxD (tbl : List (Nat × Bool)) (_ : List Cell) : D → Po
  | .xc c _ => match tbl.lookup c with
    | some b => .v (.bl b)
    | none => .no
  | _ => .no
def xfD (n : Str) (_ : List Cell) : D → Po
  | .xc _ fs => match fs.lookup n with
    | some d => .v d
    | none => .no
  | _ => .no
section
variable {X : Cx} {cl : Cl} {e : Ent} {W : WX} {f : DE} {a cx t0 : Expr} {w : V} {u : Value} {tbl : List (Nat × Bool)}
theorem xc_of {F H : Hp} {ca : List Addr} {σ : L2.St} {s : S} {v : V} {c : Nat} {fs : List (Str × D)} (b : Bx X cl e F H ca σ s) (i : Is X.K cl F ca v (.xc c fs)) : ∃ a d, v = .ref a ∧ H a = some (XoO (.ref (cl c)) d a) ∧ XdO H d := by
  cases i with
  | xc0 h => exact ⟨_, none, rfl, b.fh _ _ h, .inl rfl⟩
  | xcf h g t => exact ⟨_, _, rfl, b.fh _ _ h, .inr ⟨_, _, rfl, b.fh _ _ g⟩⟩
theorem isx_use {σ : L2.St} {H : Hp} {Q : VK} {P : Nat → Bool → Prop} (ht : Tb P tbl) (q : rd X.K cl e W (dUn (isxD tbl) f) σ H Q) : rd X.K cl e W f σ H fun v H1 => ∃ a c d k, v = .ref a ∧ H1 a = some (XoO (.ref (cl c)) d a) ∧ XdO H1 d ∧ P c k ∧ Q (.bl k) H1 := by
  obtain ⟨F, ca, s, b, q⟩ := q
  refine use_rd b q fun v d s1 F1 H1 ca1 b1 i1 x1 p1 q1 => ?_
  cases d with
  | xc c fs =>
    have q2 : rdK X.K cl e W σ F1 ca1 Q (poK s1 (match tbl.lookup c with
      | some b => .v (.bl b)
      | none => .no)) := q1
    cases e1 : tbl.lookup c with
    | none =>
      rw [e1] at q2
      exact False.elim q2
    | some k =>
      rw [e1] at q2
      obtain ⟨a, d, rfl, h1, h2⟩ := xc_of b1 i1
      exact ⟨a, c, d, k, rfl, h1, h2, ht.get e1, q2 _ F1 H1 ca1 b1 (Ex.refl _) (Pre.refl _) (.bl _)⟩
  | _ => exact False.elim q1
/-- isinstance(x, C) -/
theorem d_isx (ht : Tb (fun c b => ExcC X.K (cl c) ∧ PySem.W.kitOne X.K (.ref (cl c)) u = some b) tbl) (hc : PE X cx (tC w)) (hw : ∀ z, RelV w z → z = u) (ha : PEd X cl e W a f) (hst : ∀ t : TA, PA X [a, cx] t → PE X t0 (tCB (rIsX X.K) t))
    (h1 : starEach [a, cx] X.env = (false, eval a X.env) :: starEach [cx] X.env := by rfl) (h2 : starEach [cx] X.env = (false, eval cx X.env) :: starEach [] X.env := by rfl) : PEd X cl e W t0 (dUn (isxD tbl) f) :=
  pe_w (hst _ (pa_cons ha (pa_cons hc pa_nil h2) h1)) fun σ H Q q => by
    obtain ⟨F, ca, s, b, q⟩ := isx_use ht q
    refine ⟨F, ca, s, b, ?_⟩
    revert q
    cases e1 : f s with
    | ok d s1 =>
      intro q v F' H' ca' b' x p i
      obtain ⟨a, c, d, k, rfl, h1, h2, ⟨hE, hk⟩, q⟩ := q v F' H' ca' b' x p i
      exact ⟨a, cl c, d, w, u, k, rfl, h1, h2, hE, hw, hk, q⟩
    | nl xs s1 =>
      intro q v F' H' ca' b' x p i
      obtain ⟨a, c, d, k, rfl, h1, h2, ⟨hE, hk⟩, q⟩ := q v F' H' ca' b' x p i
      exact ⟨a, cl c, d, w, u, k, rfl, h1, h2, hE, hw, hk, q⟩
    | ni n xs s1 =>
      intro q v F' H' ca' b' x p i
      obtain ⟨a, c, d, k, rfl, h1, h2, ⟨hE, hk⟩, q⟩ := q v F' H' ca' b' x p i
      exact ⟨a, cl c, d, w, u, k, rfl, h1, h2, hE, hw, hk, q⟩
    | er x s1 => exact fun q => q
    | no => exact fun q => q
/-- written classes, one after the other -/
structure ClsL (X : Cx) (es : List Expr) (ws : List V) (us : List Value) : Prop where
  pa : PA X es (fun σ H Q => Q ws H)
  eq : ∀ zs, Vals ws zs → zs = us
theorem clsl_nil : ClsL X [] [] [] := ⟨pa_nil, fun zs h => by cases h; rfl⟩
theorem clsl_cons {es : List Expr} {ws : List V} {us : List Value} (hc : PE X cx (tC w)) (hw : ∀ z, RelV w z → z = u) (r : ClsL X es ws us) (hs : starEach (cx :: es) X.env = (false, eval cx X.env) :: starEach es X.env := by rfl) : ClsL X (cx :: es) (w :: ws) (u :: us) :=
  ⟨pa_cons hc r.pa hs, fun zs h => by
    cases h with
    | cons h1 h2 => rw [hw _ h1, r.eq _ h2]⟩
/-- isinstance(x, (C, ..)) -/
theorem d_isxT {es : List Expr} {ws : List V} {us : List Value} {pos : Pos} {k1 : Nat} (ht : Tb (fun c b => ExcC X.K (cl c) ∧ PySem.W.kitAny X.K (.ref (cl c)) us = some b) tbl) (hc : ClsL X es ws us) (hl : ws.length ≤ 100) (ha : PEd X cl e W a f)
    (hst : ∀ t : TA, PA X [a, .Tuple es k1 pos] t → PE X t0 (tCB (rIsXT X.K) t)) (h1 : starEach [a, .Tuple es k1 pos] X.env = (false, eval a X.env) :: starEach [.Tuple es k1 pos] X.env := by rfl)
    (h2 : starEach [.Tuple es k1 pos] X.env = (false, eval (.Tuple es k1 pos) X.env) :: starEach [] X.env := by rfl) : PEd X cl e W t0 (dUn (isxD tbl) f) :=
  pe_w (hst _ (pa_cons ha (pa_cons (pe_tup hc.pa) pa_nil h2) h1)) fun σ H Q ⟨F, ca, s, b, q⟩ => by
    refine use_rd b q fun v d s1 F1 H1 ca1 b1 i1 x1 p1 q1 => ?_
    refine ⟨sz (by omega), fun p hp => ?_⟩
    cases d with
    | xc c fs =>
      have q2 : rdK X.K cl e W σ F1 ca1 Q (poK s1 (match tbl.lookup c with
        | some b => .v (.bl b)
        | none => .no)) := q1
      cases e1 : tbl.lookup c with
      | none =>
        rw [e1] at q2
        exact False.elim q2
      | some k =>
        rw [e1] at q2
        have b2 := b1.laid (p := p) (o := .tup ws) hp
        obtain ⟨a, d, rfl, h1, h2⟩ := xc_of b2 i1
        obtain ⟨hE, hk⟩ := ht.get e1
        exact ⟨a, cl c, p, d, ws, us, k, rfl, h1, h2, hE, upd_same, hc.eq, hk, q2 _ F1 _ ca1 b2 (Ex.refl _) (Pre.refl _) (.bl _)⟩
    | _ => exact False.elim q1
/-- x.f -/
theorem d_xf {n : Str} {pos : Pos} (ht : ∀ c, tbl.lookup c = some true → XfC X.K (cl c) ∧ PySem.W.findIn X.K (.ref (cl c)) n = some none) (ha : PEd X cl e W a f) (hb : attributeBase a n X.env (eval a X.env) = eval a X.env := by rfl) :
    PEd X cl e W (.Attribute a n pos) (dUn (fun ce d => match d with
      | .xc c fs => if tbl.lookup c = some true then xfD n ce (.xc c fs) else .no
      | _ => .no) f) :=
  pe_w (pe_xg ha hb) fun σ H Q ⟨F, ca, s, b, q⟩ => by
    refine use_rd b q fun v d s1 F1 H1 ca1 b1 i1 x1 p1 q1 => ?_
    cases d with
    | xc c fs =>
      have q2 : rdK X.K cl e W σ F1 ca1 Q (poK s1 (if tbl.lookup c = some true then xfD n s1.ce (.xc c fs) else .no)) := q1
      by_cases hz : tbl.lookup c = some true
      · rw [if_pos hz] at q2
        have q3 : rdK X.K cl e W σ F1 ca1 Q (poK s1 (match fs.lookup n with
          | some d => .v d
          | none => .no)) := q2
        cases e1 : fs.lookup n with
        | none =>
          rw [e1] at q3
          exact False.elim q3
        | some d =>
          rw [e1] at q3
          cases i1 with
          | xc0 h => cases e1
          | xcf h g t =>
            obtain ⟨y, e2, iy⟩ := isF_look t e1
            exact ⟨_, cl c, _, _, y, rfl, b1.fh _ _ h, b1.fh _ _ g, e2, (ht c hz).1, (ht c hz).2, q3 _ F1 H1 ca1 b1 (Ex.refl _) (Pre.refl _) iy⟩
      · rw [if_neg hz] at q2
        exact False.elim q2
    | _ => exact False.elim q1
end
/-! ### try .. except -/
/-- a clause: whom it takes by class number, the slot of its name, its suite -/
structure Cla where
  t : List (Nat × Bool)
  i : Option Nat
  f : DS
def cutO (i : Nat) : O → O
  | .nx s => .nx ⟨s.sl.set i none, s.ce, s.n0⟩
  | .bk s => .bk ⟨s.sl.set i none, s.ce, s.n0⟩
  | .ct s => .ct ⟨s.sl.set i none, s.ce, s.n0⟩
  | .er _ _ => .no
  | o => o
def calmO : O → O
  | .er _ _ => .no
  | o => o
def suiK (x : Xc) (s : S) (f : DS) : Option Nat → O
  | none => calmO (f s)
  | some i => cutO i (f ⟨s.sl.set i (some (.xc x.cls x.fs)), s.ce, s.n0⟩)
def claK (x : Xc) (s : S) : List Cla → O
  | [] => .er x s
  | q :: r => match q.t.lookup x.cls with
    | some true => suiK x s q.f q.i
    | some false => claK x s r
    | none => .no
def tryK (l : List Cla) : O → O
  | .er x s => claK x s l
  | o => o
def sTry (l : List Cla) (f : DS) : DS := fun s => tryK l (f s)
section
variable {X : Cx} {cl : Cl} {e : Ent} {W : WX}
inductive HdD (X : Cx) (cl : Cl) (e : Ent) : List ExceptHandler → List Cla → Prop
  | nil : HdD X cl e [] []
  | only {x : Str} {c : Nat} {f : DS} {tbl : List (Nat × Bool)} {b : Stmt} {rest : List Stmt} {p1 p2 : Pos} {hs : List ExceptHandler} {l : List Cla} (hc : Names X x (.ref (cl c))) (ht : Tb (fun k b => PySem.W.exmOne X.K (.ref (cl k)) (.ref (cl c)) = some b) tbl)
      (hb : ∀ (a : Addr) (pn : List (Addr × Obj)), PSsd (X.suite a pn) cl e W0 (b :: rest) f) (t : HdD X cl e hs l) : HdD X cl e (.ExceptHandler (some (.Name x p1)) none (b :: rest) p2 :: hs) (⟨tbl, none, f⟩ :: l)
  | named {x n : Str} {i : Nat} {c : Nat} {f : DS} {tbl : List (Nat × Bool)} {b : Stmt} {rest : List Stmt} {p1 p2 : Pos} {hs : List ExceptHandler} {l : List Cla} (hc : Names X x (.ref (cl c))) (ht : Tb (fun k b => PySem.W.exmOne X.K (.ref (cl k)) (.ref (cl c)) = some b) tbl)
      (hi : X.N[i]? = some n) (hk : X.env.kindOf n = some .local) (hb : ∀ (a : Addr) (pn : List (Addr × Obj)), PSsd (X.suite a pn) cl e W0 (b :: rest) f) (t : HdD X cl e hs l) : HdD X cl e (.ExceptHandler (some (.Name x p1)) (some n) (b :: rest) p2 :: hs) (⟨tbl, some i, f⟩ :: l)
/-- an exception is caught: it becomes data -/
theorem B.caught {F H : Hp} {ca : List Addr} {σ : L2.St} {s : S} {cls : Value} {dd : Option Addr} {x : Xc} {a : Addr} (b : B X.K cl e F H ca σ s) (xo : XOk X.K cl F H ca cls dd x) (ha : H a = none) :
    B X.K cl e (upd F a (XoO cls dd a)) (upd H a (XoO cls dd a)) ca σ s ∧ Ex F (upd F a (XoO cls dd a)) ∧ Is X.K cl (upd F a (XoO cls dd a)) ca (.ref a) (.xc x.cls x.fs) := by
  have hF := b.notF ha
  have hx := Ex.new (o := XoO cls dd a) hF
  refine ⟨(b.laid ha).fix upd_same hF (b.notca ha) (b.notH0 ha), hx, ?_⟩
  obtain ⟨e1, e2⟩ := xo
  subst e1
  cases e3 : x.fs with
  | nil =>
    rw [e3] at e2
    have e4 : dd = none := e2
    subst e4
    exact .xc0 upd_same
  | cons y ys =>
    rw [e3] at e2
    obtain ⟨d, vs, rfl, h1, h2⟩ := e2
    exact .xcf upd_same (hx _ _ h1) (h2.mono hx (Pre.refl ca))
theorem rdSK.calm {F : Hp} {ca : List Addr} {Dn : Ends} {o : O} (h : rdSK X.K cl e W F ca Dn (calmO o)) : rdSK X.K cl e W0 F ca Dn o := by
  cases o with
  | er x s => exact False.elim h
  | _ => exact h
theorem rdSK.cut {i : Nat} {F : Hp} {ca : List Addr} {Dn : Ends} {o : O} (h : rdSK X.K cl e W F ca Dn (cutO i o)) : rdSK X.K cl e W0 F ca (cutE i Dn) o := by
  have st : ∀ {σ : L2.St} {s : S} {F' H' : Hp} {ca' : List Addr}, B X.K cl e F' H' ca' σ s → B X.K cl e F' H' ca' (σ.set i none) ⟨s.sl.set i none, s.ce, s.n0⟩ := fun {σ s F' H' ca'} b => by
    refine b.less (by rw [List.length_set, List.length_set]; exact b.len) fun k d q => ?_
    by_cases hk : k = i
    · subst hk
      by_cases hl : k < s.sl.length
      · rw [List.getElem?_set_self hl] at q
        cases q
      · rw [List.getElem?_eq_none (by rw [List.length_set]; omega)] at q
        cases q
    · rw [List.getElem?_set_ne (Ne.symm hk)] at q
      obtain ⟨v, h1, h2⟩ := b.slo k d q
      exact ⟨v, by rw [List.getElem?_set_ne (Ne.symm hk)]; exact h1, h2⟩
  cases o with
  | er x s => exact False.elim h
  | nx s => exact fun σ' F' H' ca' b x p => h _ F' H' ca' (st b) x p
  | bk s => exact fun σ' F' H' ca' b x p => h _ F' H' ca' (st b) x p
  | ct s => exact fun σ' F' H' ca' b x p => h _ F' H' ca' (st b) x p
  | _ => exact h
/-- the clauses, as the rule below wants them -/
def hdL (X : Cx) (cl : Cl) (e : Ent) (cs : List Nat) (l : List Cla) : List Hd := (cs.zip l).map fun p => ⟨.ref (cl p.1), p.2.i, rdS X.K cl e W0 p.2.f⟩
theorem HdD.ok {hs : List ExceptHandler} {l : List Cla} (h : HdD X cl e hs l) : ∃ L : List Hd, HdOk X hs L ∧ ∀ (cls : Value) (dd : Option Addr) (x : Xc) (F0 F H : Hp) (ca0 ca : List Addr) (σ : L2.St) (s : S) (Dn : Ends), B X.K cl e F H ca σ s → Ex F0 F → Pre ca0 ca → XOk X.K cl F H ca cls dd x →
    rdSK X.K cl e W F0 ca0 Dn (claK x s l) → wHd X.K W Dn L cls dd σ H := by
  induction h with
  | nil => exact ⟨[], .nil, fun cls dd x F0 F H ca0 ca σ s Dn b ex pr xo q => q cls dd σ F H ca b ex pr xo⟩
  | @only x c f tbl b rest p1 p2 hs l hc ht hb t ih =>
    obtain ⟨L, h1, h2⟩ := ih
    refine ⟨⟨.ref (cl c), none, rdS X.K cl e W0 f⟩ :: L, .only hc hb h1, fun cls dd x F0 F H ca0 ca σ s Dn b ex pr xo q => ?_⟩
    have q1 : rdSK X.K cl e W F0 ca0 Dn (match tbl.lookup x.cls with
      | some true => suiK x s f none
      | some false => claK x s l
      | none => .no) := q
    cases e1 : tbl.lookup x.cls with
    | none =>
      rw [e1] at q1
      exact False.elim q1
    | some k =>
      rw [e1] at q1
      refine ⟨k, by rw [xo.1]; exact ht.get e1, fun hk => ?_, fun hk => ?_⟩
      · subst hk
        exact h2 cls dd x F0 F H ca0 ca σ s Dn b ex pr xo q1
      · subst hk
        exact ⟨F, ca, s, b, (rdSK.calm q1).back ex pr⟩
  | @named x n i c f tbl b rest p1 p2 hs l hc ht hi hk hb t ih =>
    obtain ⟨L, h1, h2⟩ := ih
    refine ⟨⟨.ref (cl c), some i, rdS X.K cl e W0 f⟩ :: L, .named hc hi hk hb h1, fun cls dd x F0 F H ca0 ca σ s Dn b ex pr xo q => ?_⟩
    have q1 : rdSK X.K cl e W F0 ca0 Dn (match tbl.lookup x.cls with
      | some true => suiK x s f (some i)
      | some false => claK x s l
      | none => .no) := q
    cases e1 : tbl.lookup x.cls with
    | none =>
      rw [e1] at q1
      exact False.elim q1
    | some k =>
      rw [e1] at q1
      refine ⟨k, by rw [xo.1]; exact ht.get e1, fun hk => ?_, fun hk => ?_⟩
      · subst hk
        exact h2 cls dd x F0 F H ca0 ca σ s Dn b ex pr xo q1
      · subst hk
        intro a ha
        obtain ⟨b1, x1, i1⟩ := B.caught b xo ha
        exact ⟨_, ca, _, b1.put (i := i) i1, (rdSK.cut q1).back (ex.trans x1) pr⟩
theorem s_try {body : List Stmt} {h0 : ExceptHandler} {hs : List ExceptHandler} {l : List Cla} {f : DS} {pos : Pos} (hst : X.stack = X.env :: X.outer) (hfr : X.env.frame = some X.env.locals) (hN : X.N.Nodup) (tk : Takes X W)
    (hb : ∀ (W : WX) (pn : List (Addr × Obj)) (xe : Value → Shared → Prop), Takes (X.tr pn xe) W → PassesOwn (model X.prog X.w) X.A X.env xe → PSsd (X.tr pn xe) cl e W body f) (hh : HdD X cl e (h0 :: hs) l) :
    PSd X cl e W (.Try body (h0 :: hs) [] [] pos) (sTry l f) := by
  obtain ⟨L, h1, h2⟩ := hh.ok (W := W)
  refine ps_w (ps_tryH (tb := fun W => rdS X.K cl e W f) hst hfr hN tk hb h1) fun Dn σ H ⟨F, ca, s, b, q⟩ => ⟨F, ca, s, b, ?_⟩
  unfold sTry at q
  cases e1 : f s with
  | er x s1 =>
    rw [e1] at q
    exact fun cls dd σ' F' H' ca' b' x' p' xo => h2 cls dd x F F' H' ca ca' σ' s1 Dn b' x' p' xo q
  | nx s1 =>
    rw [e1] at q
    exact q
  | bk s1 =>
    rw [e1] at q
    exact q
  | ct s1 =>
    rw [e1] at q
    exact q
  | rt d s1 =>
    rw [e1] at q
    exact q
  | rl d s1 =>
    rw [e1] at q
    exact q
  | ri c d s1 =>
    rw [e1] at q
    exact q
  | no =>
    rw [e1] at q
    exact q
end
end Dv

set_option maxRecDepth 100000
set_option maxHeartbeats 4000000
/-! x op= .. by an operator on data -/
namespace Dv
open PySem PySem.Spec PyProof.Rows L2
def augP (i : Nat) (s : S) : Po → O
  | .v d => .nx ⟨s.sl.set i (some d), s.ce, s.n0⟩
  | _ => .no
def sAugP (i : Nat) (p : List Cell → D → D → Po) (f : DE) : DS := fun s => match s.sl[i]? with
  | some (some a) => bindO (f s) fun d s1 => augP i s1 (p s1.ce a d)
  | _ => .no
def pMulS (_ : List Cell) : D → D → Po
  | .int i, .int j => if -18446744073709551616 < j ∧ j < 18446744073709551616 then .v (.int (i * j)) else .no
  | _, _ => .no
def pDivS (_ : List Cell) : D → D → Po
  | .int i, .int j => if 0 < j ∧ j < 1073741824 then .v (.int (i / j)) else .no
  | _, _ => .no
section
variable {X : Cx} {cl : Cl} {e : Ent} {W : WX} {f : DE}
theorem od_mulS : OpD X cl e (rI CMul fun i j => .int (i * j)) pMulS := fun F H ca σ s v1 v2 d1 d2 b h1 h2 => by
  cases h1 with
  | int i =>
    cases h2 with
    | int j => exact .ite fun hz => .val b (.int _) fun Q q => ⟨i, j, rfl, rfl, .inr ⟨hz.1, hz.2⟩, q⟩
    | _ => trivial
  | _ => cases h2 <;> trivial
theorem od_divS : OpD X cl e (rI CDiv fun i j => .int (i / j)) pDivS := fun F H ca σ s v1 v2 d1 d2 b h1 h2 => by
  cases h1 with
  | int i =>
    cases h2 with
    | int j => exact .ite fun hz => .val b (.int _) fun Q q => ⟨i, j, rfl, rfl, hz, q⟩
    | _ => trivial
  | _ => cases h2 <;> trivial
/-! is, is not -/
def pIsB (neg : Bool) (_ : List Cell) : D → D → Po
  | .bl a, .bl b => .v (.bl (if neg then !decide (a = b) else decide (a = b)))
  | _, _ => .no
theorem od_isB : OpD X cl e rIsB (pIsB false) := fun F H ca σ s v1 v2 d1 d2 b h1 h2 => by
  cases h1 with
  | bl i =>
    cases h2 with
    | bl j => exact .val b (.bl _) fun Q q => ⟨i, j, rfl, rfl, q⟩
    | _ => trivial
  | _ => cases h2 <;> trivial
theorem od_notB : OpD X cl e rNotB (pIsB true) := fun F H ca σ s v1 v2 d1 d2 b h1 h2 => by
  cases h1 with
  | bl i =>
    cases h2 with
    | bl j => exact .val b (.bl _) fun Q q => ⟨i, j, rfl, rfl, q⟩
    | _ => trivial
  | _ => cases h2 <;> trivial
theorem e_isB {x y : Expr} {g : DE} {pos : Pos} (ha : PEd X cl e W x f) (hb : PEd X cl e W y g) (hm : behindInMarks .Is y = false := by rfl) : PEd X cl e W (.Compare x [.Is] [y] pos) (dOp (pIsB false) f g) := d_cmp op_isBl od_isB ha hb hm
theorem c_isB {x y : Expr} {g : DE} {pos : Pos} (ha : PEd X cl e W x f) (hb : PEd X cl e W y g) (hm : behindInMarks .Is y = false := by rfl) : PTd X cl e W (.Compare x [.Is] [y] pos) (bTest (dOp (pIsB false) f g)) := t_cmp op_isBl od_isB ha hb hm
theorem e_notB {x y : Expr} {g : DE} {pos : Pos} (ha : PEd X cl e W x f) (hb : PEd X cl e W y g) (hm : behindInMarks .IsNot y = false := by rfl) : PEd X cl e W (.Compare x [.IsNot] [y] pos) (dOp (pIsB true) f g) := d_cmp op_notBl od_notB ha hb hm
theorem c_notB {x y : Expr} {g : DE} {pos : Pos} (ha : PEd X cl e W x f) (hb : PEd X cl e W y g) (hm : behindInMarks .IsNot y = false := by rfl) : PTd X cl e W (.Compare x [.IsNot] [y] pos) (bTest (dOp (pIsB true) f g)) := t_cmp op_notBl od_notB ha hb hm
theorem od_notN : OpD X cl e (fun x y H Q => y = .non ∧ Q (.bl (!decide (x = .non))) H) (pIs true) := fun F H ca σ s v1 v2 d1 d2 b h1 h2 => by
  cases h2 with
  | non =>
    cases h1 with
    | rf h => trivial
    | non => exact .val b (.bl _) fun Q q => ⟨rfl, q⟩
    | _ => exact .val b (.bl _) fun Q q => ⟨rfl, q⟩
  | _ => cases h1 <;> trivial
theorem e_notN {x y : Expr} {g : DE} {pos : Pos} (ha : PEd X cl e W x f) (hb : PEd X cl e W y g) (hm : behindInMarks .IsNot y = false := by rfl) : PEd X cl e W (.Compare x [.IsNot] [y] pos) (dOp (pIs true) f g) := d_cmp op_notN od_notN ha hb hm
theorem c_notN {x y : Expr} {g : DE} {pos : Pos} (ha : PEd X cl e W x f) (hb : PEd X cl e W y g) (hm : behindInMarks .IsNot y = false := by rfl) : PTd X cl e W (.Compare x [.IsNot] [y] pos) (bTest (dOp (pIs true) f g)) := t_cmp op_notN od_notN ha hb hm
theorem ip_mulS : PIp X .Mult (rI CMul fun i j => .int (i * j)) := fun pins s σ H x y v u Q I r1 r2 h => iop_mul pins s σ H x y v u Q I r1 r2 h
theorem ip_divS : PIp X .FloorDiv (rI CDiv fun i j => .int (i / j)) := fun pins s σ H x y v u Q I r1 r2 h => iop_fdiv pins s σ H x y v u Q I r1 r2 h
theorem s_augP {i : Nat} {p : List Cell → D → D → Po} {r : R2} {st : Stmt} (ho : OpD X cl e r p) (hst : PS X st (tAug i (rd X.K cl e W f) r)) : PSd X cl e W st (sAugP i p f) := ps_w hst fun Dn σ H ⟨F, ca, s, b, q⟩ => by
  unfold sAugP at q
  cases z : s.sl[i]? with
  | none =>
    rw [z] at q
    exact False.elim q
  | some o =>
    rw [z] at q
    cases o with
    | none => exact False.elim q
    | some a =>
      obtain ⟨v, h1, h2⟩ := b.slo i a z
      refine ⟨v, h1, useS_rd b q fun w d s1 F1 H1 ca1 b1 i1 x1 p1 q1 => ?_⟩
      have h3 := ho F1 H1 ca1 σ s1 v w a d b1 (h2.mono x1 p1) i1
      cases e1 : p s1.ce a d with
      | v dd =>
        rw [e1] at h3 q1
        exact h3 _ fun u H' b' i' => q1 _ F1 H' ca1 (b'.put i') (Ex.refl F1) (Pre.refl ca1)
      | l xs =>
        rw [e1] at q1
        exact False.elim q1
      | no =>
        rw [e1] at q1
        exact False.elim q1
end
end Dv

set_option maxRecDepth 100000
set_option maxHeartbeats 4000000
/-! Go: what a data term's run leads to, told backwards -/
namespace Dv
namespace Du
end Du
open Du
open PySem PySem.Spec PyProof.Rows L2

abbrev KD := D → S → Prop
abbrev KX := Xc → S → Prop
abbrev KL' := List D → S → Prop
abbrev KI' := Nat → List (Str × D) → S → Prop
def noL : KL' := fun _ _ => False
def noI : KI' := fun _ _ _ => False
/-- a result: a new list, a new instance, a value, an error -/
def Du.Gr (r : R) (kl : KL') (ki : KI') (k : KD) (x : KX) : Prop := match r with
  | .ok d s => k d s
  | .nl xs s => kl xs s
  | .ni c fs s => ki c fs s
  | .er e s => x e s
  | .no => False
def Du.Gn (f : DE) (s : S) (kl : KL') (ki : KI') (k : KD) (x : KX) : Prop := Gr (f s) kl ki k x
def Du.Ge (f : DE) (s : S) (k : KD) (x : KX) : Prop := Gr (f s) noL noI k x
def Du.GrA (r : RA) (k : KL') (x : KX) : Prop := match r with
  | .ok ds s => k ds s
  | .er e s => x e s
  | .no => False
def Du.Ga (f : DA) (s : S) (k : KL') (x : KX) : Prop := GrA (f s) k x
def Du.GrB (r : RB) (k : Bool → S → Prop) (x : KX) : Prop := match r with
  | .ok b s => k b s
  | .er e s => x e s
  | .no => False
def Du.Gb (f : DB) (s : S) (k : Bool → S → Prop) (x : KX) : Prop := GrB (f s) k x
def Du.GrI (r : RI) (k : KL') (x : KX) : Prop := match r with
  | .ok ds s => k ds s
  | .er e s => x e s
  | .no => False
def Du.Gi (f : DI) (s : S) (k : KL') (x : KX) : Prop := GrI (f s) k x
def Du.GrP (r : RP) (k : Option Int → S → Prop) (x : KX) : Prop := match r with
  | .ok ds s => k ds s
  | .er e s => x e s
  | .no => False
def Du.Gp (f : DP) (s : S) (k : Option Int → S → Prop) (x : KX) : Prop := GrP (f s) k x
/-- what two values give -/
def Du.Gq (p : Po) (s : S) (kl : KL') (k : KD) : Prop := match p with
  | .v d => k d s
  | .l xs => kl xs s
  | .no => False
/-- what a def's function gives -/
def Du.Gf (r : FR) (s : S) (kl : KL') (ki : KI') (k : KD) (x : KX) : Prop := match r with
  | .ok d ce => k d ⟨s.sl, ce, s.n0⟩
  | .nl xs ce => kl xs ⟨s.sl, ce, s.n0⟩
  | .ni c fs ce => ki c fs ⟨s.sl, ce, s.n0⟩
  | .er e ce => x e ⟨s.sl, ce, s.n0⟩
  | .no => False
abbrev KS := S → Prop
def Du.GrO (o : O) (nx bk ct : KS) (rt : R → Prop) (x : KX) : Prop := match o with
  | .nx s => nx s
  | .bk s => bk s
  | .ct s => ct s
  | .rt d s => rt (.ok d s)
  | .rl xs s => rt (.nl xs s)
  | .ri c fs s => rt (.ni c fs s)
  | .er e s => x e s
  | .no => False
def Du.Gs (f : DS) (s : S) (nx bk ct : KS) (rt : R → Prop) (x : KX) : Prop := GrO (f s) nx bk ct rt x
def Du.Br (t : Bool) (p q : Prop) : Prop := if t = true then p else q
theorem Du.br_t {p q : Prop} {t : Bool} (e : t = true) (h : p) : Br t p q := by rw [Br, if_pos e]; exact h
theorem Du.br_f {p q : Prop} {t : Bool} (e : t = false) (h : q) : Br t p q := by rw [Br, if_neg (by rw [e]; decide)]; exact h
theorem Du.br_dt {p q c : Prop} [Decidable c] (e : c) (h : p) : Br (decide c) p q := br_t (decide_eq_true e) h
theorem Du.br_df {p q c : Prop} [Decidable c] (e : ¬c) (h : q) : Br (decide c) p q := br_f (decide_eq_false e) h
theorem Du.br_s {p q : Prop} {t : Bool} (h1 : t = true → p) (h2 : t = false → q) : Br t p q := by
  cases t
  · exact br_f rfl (h2 rfl)
  · exact br_t rfl (h1 rfl)

section
variable {kl kl' : KL'} {ki ki' : KI'} {k k' : KD} {x x' : KX} {r : R} {s : S}
theorem Du.Gr.mono (h : Gr r kl ki k x) (h1 : ∀ d s, k d s → k' d s) (h2 : ∀ d s, kl d s → kl' d s) (h3 : ∀ c d s, ki c d s → ki' c d s) : Gr r kl' ki' k' x := by
  cases r with
  | ok d s => exact h1 d s h
  | nl d s => exact h2 d s h
  | ni c d s => exact h3 c d s h
  | _ => exact h
theorem Du.Gr.m1 (h : Gr r kl ki k x) (h1 : ∀ d s, k d s → k' d s) : Gr r kl ki k' x := h.mono h1 (fun _ _ h => h) fun _ _ _ h => h
theorem Du.Gr.up (h : Gr r noL noI k x) : Gr r kl ki k x := h.mono (fun _ _ h => h) (fun _ _ h => h.elim) fun _ _ _ h => h.elim
theorem Du.gr_bind {f : D → S → R} (h : Gr r noL noI (fun d s => Gr (f d s) kl ki k x) x) : Gr (bindR r f) kl ki k x := by
  cases r with
  | _ => exact h
theorem Du.gr_bindA {r : RA} {f : List D → S → R} (h : GrA r (fun d s => Gr (f d s) kl ki k x) x) : Gr (bindAR r f) kl ki k x := by
  cases r with
  | _ => exact h
theorem Du.gr_bindB {r : RB} {f : Bool → S → R} (h : GrB r (fun d s => Gr (f d s) kl ki k x) x) : Gr (bindBR r f) kl ki k x := by
  cases r with
  | _ => exact h
theorem Du.gr_bindI {r : RI} {f : List D → S → R} (h : GrI r (fun d s => Gr (f d s) kl ki k x) x) : Gr (bindIR r f) kl ki k x := by
  cases r with
  | _ => exact h
theorem Du.gr_bindP {r : RP} {f : Option Int → S → R} (h : GrP r (fun d s => Gr (f d s) kl ki k x) x) : Gr (bindPR r f) kl ki k x := by
  cases r with
  | _ => exact h
theorem Du.ga_bindR {f : D → S → RA} {k : KL'} (h : Gr r noL noI (fun d s => GrA (f d s) k x) x) : GrA (bindRA r f) k x := by
  cases r with
  | _ => exact h
theorem Du.ga_bindA {r : RA} {f : List D → S → RA} {k : KL'} (h : GrA r (fun d s => GrA (f d s) k x) x) : GrA (bindA r f) k x := by
  cases r with
  | _ => exact h
theorem Du.gb_bindR {f : D → S → RB} {k : Bool → S → Prop} (h : Gr r noL noI (fun d s => GrB (f d s) k x) x) : GrB (bindRB r f) k x := by
  cases r with
  | _ => exact h
theorem Du.gb_bindB {r : RB} {f : Bool → S → RB} {k : Bool → S → Prop} (h : GrB r (fun d s => GrB (f d s) k x) x) : GrB (bindB r f) k x := by
  cases r with
  | _ => exact h
theorem Du.gp_bindR {f : D → S → RP} {k : Option Int → S → Prop} (h : Gr r noL noI (fun d s => GrP (f d s) k x) x) : GrP (bindRP r f) k x := by
  cases r with
  | _ => exact h
theorem Du.gi_bindA {r : RA} {f : List D → S → RI} {k : KL'} (h : GrA r (fun d s => GrI (f d s) k x) x) : GrI (bindAI r f) k x := by
  cases r with
  | _ => exact h
variable {nx bk ct : KS} {rt : R → Prop}
theorem Du.go_bindR {f : D → S → O} (h : Gr r noL noI (fun d s => GrO (f d s) nx bk ct rt x) x) : GrO (bindO r f) nx bk ct rt x := by
  cases r with
  | _ => exact h
theorem Du.go_bindA {r : RA} {f : List D → S → O} (h : GrA r (fun d s => GrO (f d s) nx bk ct rt x) x) : GrO (bindAO r f) nx bk ct rt x := by
  cases r with
  | _ => exact h
theorem Du.go_bindB {r : RB} {f : Bool → S → O} (h : GrB r (fun d s => GrO (f d s) nx bk ct rt x) x) : GrO (bindBO r f) nx bk ct rt x := by
  cases r with
  | _ => exact h
theorem Du.go_bindI {r : RI} {f : List D → S → O} (h : GrI r (fun d s => GrO (f d s) nx bk ct rt x) x) : GrO (bindIO r f) nx bk ct rt x := by
  cases r with
  | _ => exact h
theorem Du.GrA.m1 {r : RA} {k k' : KL'} (h : GrA r k x) (h1 : ∀ d s, k d s → k' d s) : GrA r k' x := by
  cases r with
  | ok d s => exact h1 d s h
  | _ => exact h
theorem Du.GrB.m1 {r : RB} {k k' : Bool → S → Prop} (h : GrB r k x) (h1 : ∀ d s, k d s → k' d s) : GrB r k' x := by
  cases r with
  | ok d s => exact h1 d s h
  | _ => exact h
theorem Du.GrI.m1 {r : RI} {k k' : KL'} (h : GrI r k x) (h1 : ∀ d s, k d s → k' d s) : GrI r k' x := by
  cases r with
  | ok d s => exact h1 d s h
  | _ => exact h
theorem Du.GrP.m1 {r : RP} {k k' : Option Int → S → Prop} (h : GrP r k x) (h1 : ∀ d s, k d s → k' d s) : GrP r k' x := by
  cases r with
  | ok d s => exact h1 d s h
  | _ => exact h
end

/-! ### the rules -/
section
variable {kl : KL'} {ki : KI'} {k : KD} {x : KX} {s : S} {f g h : DE} {ga : DA} {tb tc : DB} {d a b : D} {i j n : Nat} {p : List Cell → D → Po} {p2 : List Cell → D → D → Po} {kA : KL'} {kB : Bool → S → Prop} {m : Fn} {c0 : Nat}
/-! values -/
theorem Du.n_var (e : s.sl[i]? = some (some d)) (h : k d s) : Gn (dVar i) s kl ki k x := by
  unfold Gn dVar
  rw [e]
  exact h
theorem Du.e_of_n (h : Gn f s noL noI k x) : Ge f s k x := h
theorem Du.n_c (h : k d s) : Gn (dC d) s kl ki k x := h
theorem Du.n_fz (h : Gn f s (fun xs s => k (.lst xs) s) (fun c fs s => k (.obj c fs) s) k x) : Gn (dFz f) s kl ki k x := by
  unfold Gn dFz at *
  generalize f s = r at *
  cases r with
  | _ => exact h
theorem Du.n_ce (h : Gn f s (fun xs s => k (.rf s.ce.length) ⟨s.sl, s.ce ++ [.lst xs], s.n0⟩) (fun c fs s => k (.rf s.ce.length) ⟨s.sl, s.ce ++ [.ins c fs], s.n0⟩) k x) : Gn (dCe f) s kl ki k x := by
  unfold Gn dCe at *
  generalize f s = r at *
  cases r with
  | _ => exact h
theorem Du.gr_po {po : Po} (h : Gq po s kl k) : Gr (poK s po) kl ki k x := by
  cases po with
  | _ => exact h
theorem Du.n_op (h : Ge f s (fun a s => Ge g s (fun b s => Gq (p2 s.ce a b) s kl k) x) x) : Gn (dOp p2 f g) s kl ki k x :=
  gr_bind (Gr.m1 h fun _ _ h => gr_bind (Gr.m1 h fun _ _ h => gr_po h))
theorem Du.n_un (h : Ge f s (fun a s => Gq (p s.ce a) s kl k) x) : Gn (dUn p f) s kl ki k x :=
  gr_bind (Gr.m1 h fun _ _ h => gr_po h)
theorem Du.n_bi {pb : List Cell → List D → Po} (h : Ga ga s (fun ds s => Gq (pb s.ce ds) s kl k) x) : Gn (dBi pb ga) s kl ki k x :=
  gr_bindA (GrA.m1 h fun _ _ h => gr_po h)
theorem Du.n_lst (h : Ga ga s (fun ds s => ds.length ≤ 100000 ∧ kl ds s) x) : Gn (dLst ga) s kl ki k x :=
  gr_bindA (GrA.m1 h fun ds s ⟨h1, h2⟩ => by rw [if_pos h1]; exact h2)
theorem Du.n_tup (h : Ga ga s (fun ds s => ds.length ≤ 100000 ∧ k (.tup ds) s) x) : Gn (dTup ga) s kl ki k x :=
  gr_bindA (GrA.m1 h fun ds s ⟨h1, h2⟩ => by rw [if_pos h1]; exact h2)
theorem Du.a_nil (h : kA [] s) : Ga aNil s kA x := h
theorem Du.a_cons (h : Ge f s (fun d s => Ga ga s (fun ds s => kA (d :: ds) s) x) x) : Ga (aCons f ga) s kA x :=
  ga_bindR (Gr.m1 h fun _ _ h => ga_bindA (GrA.m1 h fun _ _ h => h))
theorem Du.b_test (h : Ge f s (fun d s => ∃ b, d = .bl b ∧ kB b s) x) : Gb (bTest f) s kB x :=
  gb_bindR (Gr.m1 h fun _ _ ⟨_, e, h⟩ => by subst e; exact h)
theorem Du.b_tru (h : Ge f s (fun d s => ∃ b, truD s.ce d = some b ∧ kB b s) x) : Gb (bTru f) s kB x :=
  gb_bindR (Gr.m1 h fun _ _ ⟨_, e, h⟩ => by rw [e]; exact h)
theorem Du.b_and (h : Gb tb s (fun t s => Br t (Gb tc s kB x) (kB false s)) x) : Gb (bAnd tb tc) s kB x :=
  gb_bindB (GrB.m1 h fun t s h => by cases t <;> exact h)
theorem Du.b_or (h : Gb tb s (fun t s => Br t (kB true s) (Gb tc s kB x)) x) : Gb (bOr tb tc) s kB x :=
  gb_bindB (GrB.m1 h fun t s h => by cases t <;> exact h)
theorem Du.b_not (h : Gb tb s (fun t s => kB (!t) s) x) : Gb (bNot tb) s kB x :=
  gb_bindB (GrB.m1 h fun t s h => h)
theorem Du.b_yes (h : kB true s) : Gb bYes s kB x := h
theorem Du.n_if (h : Gb tb s (fun t s => Br t (Gn f s kl ki k x) (Gn g s kl ki k x)) x) : Gn (dIf tb f g) s kl ki k x :=
  gr_bindB (GrB.m1 h fun t s h => by cases t <;> exact h)
theorem Du.n_and (h : Ge f s (fun d s => ∃ t, d = .bl t ∧ Br t (Gn g s kl ki k x) (k (.bl false) s)) x) : Gn (dAnd f g) s kl ki k x :=
  gr_bind (Gr.m1 h fun _ _ ⟨t, e, h⟩ => by subst e; cases t <;> exact h)
theorem Du.n_or (h : Ge f s (fun d s => ∃ t, d = .bl t ∧ Br t (k (.bl true) s) (Gn g s kl ki k x)) x) : Gn (dOr f g) s kl ki k x :=
  gr_bind (Gr.m1 h fun _ _ ⟨t, e, h⟩ => by subst e; cases t <;> exact h)
theorem Du.n_not (h : Ge f s (fun d s => ∃ t, d = .bl t ∧ k (.bl !t) s) x) : Gn (dNot f) s kl ki k x :=
  gr_bind (Gr.m1 h fun _ _ ⟨t, e, h⟩ => by subst e; exact h)
theorem Du.p_none' {kP : Option Int → S → Prop} (h : kP none s) : Gp ptNone s kP x := h
theorem Du.p_some' {kP : Option Int → S → Prop} (h : Ge f s (fun d s => ∃ i, d = .int i ∧ kP (some i) s) x) : Gp (ptSome f) s kP x :=
  gp_bindR (Gr.m1 h fun _ _ ⟨t, e, h⟩ => by subst e; exact h)
theorem Du.n_slice {l u : DP} (h : Ge f s (fun d s => Gp l s (fun lo s => Gp u s (fun hi s => ∃ xs, look s.ce d = some xs ∧ kl (cutD xs lo hi) s) x) x) x) : Gn (dSlice f l u) s kl ki k x :=
  gr_bind (Gr.m1 h fun _ _ h => gr_bindP (GrP.m1 h fun _ _ h => gr_bindP (GrP.m1 h fun _ _ ⟨xs, e, h⟩ => by rw [e]; exact h)))
/-! calls -/
theorem Du.gr_fr {r : FR} (h : Gf r s kl ki k x) : Gr (frK s r) kl ki k x := by
  cases r with
  | _ => exact h
theorem Du.n_call (h : Ga ga s (fun ds s => ds.length = n ∧ Gf (m ds s.ce) s kl ki k x) x) : Gn (dCall n m ga) s kl ki k x :=
  gr_bindA (GrA.m1 h fun ds s ⟨h1, h2⟩ => by rw [if_pos h1]; exact gr_fr h2)
theorem Du.gr_own {ds : List D} {o : Option (List (Str × D))} {fs : List (Str × D)} (e : o = some fs) (hn : ds.length = n) (h : Gf (m ds s.ce) s kl ki k x) : Gr (ownK c0 n m s ds o) kl ki k x := by
  subst e
  show Gr (if ds.length = n then frK s (m ds s.ce) else .no) kl ki k x
  rw [if_pos hn]
  exact gr_fr h
theorem Du.n_own1 (h : Ge f s (fun d s => ∃ fs, instF c0 s.ce d = some fs ∧ n = 1 ∧ Gf (m [d] s.ce) s kl ki k x) x) : Gn (dOwn1 c0 n m f) s kl ki k x :=
  gr_bind (Gr.m1 h fun _ _ ⟨_, e, hn, h⟩ => gr_own e (by rw [hn] <;> rfl) h)
theorem Du.n_eqO (h : Ge f s (fun d s => Ge g s (fun w s => ∃ fs fs', instF c0 s.ce d = some fs ∧ instF c0 s.ce w = some fs' ∧ n = 2 ∧ Gf (m [d, w] s.ce) s kl ki k x) x) x) : Gn (dEqO c0 n m f g) s kl ki k x :=
  gr_bind (Gr.m1 h fun d s h => gr_bind (Gr.m1 h fun w s ⟨fs, fs', e, e', hn, h⟩ => by
    show Gr (match instF c0 s.ce w with
      | some _ => ownK c0 n m s [d, w] (instF c0 s.ce d)
      | none => .no) kl ki k x
    rw [e']
    exact gr_own e (by rw [hn] <;> rfl) h))
theorem Du.n_prop (h : Ge f s (fun d s => ∃ fs, instF c0 s.ce d = some fs ∧ n = 1 ∧ Gf (m [d] s.ce) s kl ki k (fun _ _ => False)) x) : Gn (dProp c0 n m f) s kl ki k x :=
  gr_bind (Gr.m1 h fun d s ⟨_, e, hn, h⟩ => by
    have z : Gr (ownK c0 n m s [d] (instF c0 s.ce d)) kl ki k (fun _ _ => False) := gr_own e (by rw [hn] <;> rfl) h
    generalize ownK c0 n m s [d] (instF c0 s.ce d) = r at *
    cases r with
    | _ => exact z)
theorem Du.n_meth {nm : Str} (h : Ge f s (fun d s => ∃ fs, instF c0 s.ce d = some fs ∧ (fs.lookup nm).isNone = true ∧ Ga ga s (fun ds s => ds.length + 1 = n ∧ Gf (m (d :: ds) s.ce) s kl ki k x) x) x) : Gn (dMeth c0 n nm m f ga) s kl ki k x :=
  gr_bind (Gr.m1 h fun d s ⟨fs, e, hn, h⟩ => by
    show Gr (methK c0 n nm m d ga s (instF c0 s.ce d)) kl ki k x
    rw [e]
    show Gr (if (fs.lookup nm).isNone = true then _ else _) kl ki k x
    rw [if_pos hn]
    exact gr_bindA (GrA.m1 h fun ds s ⟨h1, h2⟩ => by rw [if_pos h1]; exact gr_fr h2))
theorem Du.n_callO (h : Ge f s (fun d s => (instF c0 s.ce d).isSome = true ∧ Ga ga s (fun ds s => ∃ fs, instF c0 s.ce d = some fs ∧ ds.length + 1 = n ∧ Gf (m (d :: ds) s.ce) s kl ki k x) x) x) : Gn (dCallO c0 n m f ga) s kl ki k x :=
  gr_bind (Gr.m1 h fun d s ⟨e, h⟩ => by
    show Gr (if (instF c0 s.ce d).isSome = true then _ else _) kl ki k x
    rw [if_pos e]
    exact gr_bindA (GrA.m1 h fun ds s ⟨fs, e, hn, h⟩ => gr_own e (by rw [← hn] <;> rfl) h))
theorem Du.n_make {mk : MkFn} (h : Ga ga s (fun ds s => ds.length + 1 = n ∧ Gr (fiK c0 s (mk ds s.ce)) kl ki k x) x) : Gn (dMake c0 n mk ga) s kl ki k x :=
  gr_bindA (GrA.m1 h fun ds s ⟨h1, h2⟩ => by rw [if_pos h1]; exact h2)
theorem Du.gr_mk {r : FI} {fs : List (Str × D)} (e : r = .ok fs) (h : ki c0 fs s) : Gr (fiK c0 s r) kl ki k x := by
  subst e
  exact h
theorem Du.gr_mk_er {r : FI} {e : Xc} (q : r = .er e) (h : x e s) : Gr (fiK c0 s r) kl ki k x := by
  subst q
  exact h
theorem Du.n_callK {nk : Nat} {ix : List Nat} (h : Ga ga s (fun ds s => ds.length = nk ∧ (pick ix ds).length = n ∧ Gf (m (pick ix ds) s.ce) s kl ki k x) x) : Gn (dCallK n nk m ix ga) s kl ki k x :=
  gr_bindA (GrA.m1 h fun ds s ⟨h1, h2, h3⟩ => by
    show Gr (if ds.length = nk ∧ (pick ix ([] ++ ds)).length = n then _ else _) kl ki k x
    rw [if_pos ⟨h1, h2⟩]
    exact gr_fr h3)
theorem Du.n_methK {nk : Nat} {nm : Str} {ix : List Nat} (h : Ge f s (fun d s => ∃ fs, instF c0 s.ce d = some fs ∧ (fs.lookup nm).isNone = true ∧ Ga ga s (fun ds s => ds.length = nk ∧ (pick ix (d :: ds)).length = n ∧ Gf (m (pick ix (d :: ds)) s.ce) s kl ki k x) x) x) :
    Gn (dMethK c0 n nk nm m ix f ga) s kl ki k x :=
  gr_bind (Gr.m1 h fun d s ⟨fs, e, hn, h⟩ => by
    show Gr (methKK n nk nm m ix d ga s (instF c0 s.ce d)) kl ki k x
    rw [e]
    show Gr (if (fs.lookup nm).isNone = true then _ else _) kl ki k x
    rw [if_pos hn]
    exact gr_bindA (GrA.m1 h fun ds s ⟨h1, h2, h3⟩ => by
      show Gr (if ds.length = nk ∧ (pick ix ([d] ++ ds)).length = n then _ else _) kl ki k x
      rw [if_pos ⟨h1, h2⟩]
      exact gr_fr h3))
/-! what may be asked of own objects -/
theorem Du.n_inO (h : Ge f s (fun d s => Ge g s (fun w s => ∃ fs, instF c0 s.ce w = some fs ∧ Gf (m [w, d] s.ce) s noL noI (fun r s => ∃ t, r = .bl t ∧ k (.bl t) s) x) x) x) : Gn (dInO c0 m f g) s kl ki k x :=
  gr_bind (Gr.m1 h fun d s h => gr_bind (Gr.m1 h fun w s ⟨fs, e, h⟩ => by
    have z := gr_own (c0 := c0) (m := m) (ds := [w, d]) (n := 2) e rfl h
    generalize ownK c0 2 m s [w, d] (instF c0 s.ce w) = r at *
    cases r with
    | ok r s =>
      obtain ⟨t, rfl, z⟩ := z
      exact z
    | _ => exact z))
theorem Du.n_notInO (h : Ge f s (fun d s => Ge g s (fun w s => ∃ fs, instF c0 s.ce w = some fs ∧ Gf (m [w, d] s.ce) s noL noI (fun r s => ∃ t, r = .bl t ∧ k (.bl !t) s) x) x) x) : Gn (dNotInO c0 m f g) s kl ki k x :=
  gr_bind (Gr.m1 h fun d s h => gr_bind (Gr.m1 h fun w s ⟨fs, e, h⟩ => by
    have z := gr_own (c0 := c0) (m := m) (ds := [w, d]) (n := 2) e rfl h
    generalize ownK c0 2 m s [w, d] (instF c0 s.ce w) = r at *
    cases r with
    | ok r s =>
      obtain ⟨t, rfl, z⟩ := z
      exact z
    | _ => exact z))
theorem Du.n_lenO (h : Ge f s (fun d s => ∃ fs, instF c0 s.ce d = some fs ∧ Gf (m [d] s.ce) s noL noI (fun r s => ∃ i, r = .int i ∧ 0 ≤ i ∧ i < 1000000 ∧ k (.int i) s) x) x) : Gn (dLenO c0 m f) s kl ki k x :=
  gr_bind (Gr.m1 h fun d s ⟨fs, e, h⟩ => by
    have z := gr_own (c0 := c0) (m := m) (ds := [d]) (n := 1) e rfl h
    generalize ownK c0 1 m s [d] (instF c0 s.ce d) = r at *
    cases r with
    | ok r s =>
      obtain ⟨i, rfl, h1, h2, z⟩ := z
      show Gr (if 0 ≤ i ∧ i < 1000000 then R.ok (.int i) s else .no) kl ki k x
      rw [if_pos ⟨h1, h2⟩]
      exact z
    | _ => exact z)
/-! methods of lists -/
def Du.Gm (mo : Mo) (s : S) (kl : KL') (k : KD) : Prop := match mo with
  | .w j c d => k d ⟨s.sl, s.ce.set j c, s.n0⟩
  | .v d => k d s
  | .l xs => kl xs s
  | .no => False
theorem Du.gr_mo {mo : Mo} (h : Gm mo s kl k) : Gr (moK s mo) kl ki k x := by
  cases mo with
  | _ => exact h
theorem Du.n_mt {lk : List Cell → D → Bool} {mm : List Cell → D → List D → Mo} (h : Ge f s (fun d s => lk s.ce d = true ∧ Ga ga s (fun ds s => Gm (mm s.ce d ds) s kl k) x) x) : Gn (dMt lk mm f ga) s kl ki k x :=
  gr_bind (Gr.m1 h fun d s ⟨e, h⟩ => by
    show Gr (if lk s.ce d = true then _ else _) kl ki k x
    rw [if_pos e]
    exact gr_bindA (GrA.m1 h fun ds s h => gr_mo h))
theorem Du.m_app {xs : List D} {ce : List Cell} (e : ce[j]? = some (.lst xs)) (hl : xs.length < 100000) (h : k .non ⟨s.sl, s.ce.set j (.lst (xs ++ [d])), s.n0⟩) : Gm (mApp ce (.rf j) [d]) s kl k := by
  show Gm (match cellL ce[j]? with
    | some xs => if xs.length < 100000 then Mo.w j (.lst (xs ++ [d])) .non else .no
    | none => .no) s kl k
  rw [e]
  show Gm (if xs.length < 100000 then _ else _) s kl k
  rw [if_pos hl]
  exact h
theorem Du.m_ext {xs ys : List D} {ce : List Cell} (e : ce[j]? = some (.lst xs)) (hl : xs.length + ys.length ≤ 100000) (h : k .non ⟨s.sl, s.ce.set j (.lst (xs ++ ys)), s.n0⟩) : Gm (mExt ce (.rf j) [.lst ys]) s kl k := by
  show Gm (extK j ys (cellL ce[j]?)) s kl k
  rw [e]
  show Gm (if xs.length + ys.length ≤ 100000 then _ else _) s kl k
  rw [if_pos hl]
  exact h
/-! dicts -/
theorem Du.n_newD (h : k (.rf s.ce.length) ⟨s.sl, s.ce ++ [.dic []], s.n0⟩) : Gn dNewD s kl ki k x := h
theorem Du.gr_get {kvs : List (Key × D)} {y : D} {ky : Key} {z : D} (e : s.ce[j]? = some (.dic kvs)) (ek : keyD y = some ky) (h : k ((valKD kvs ky).getD z) s) : Gr (getK s z (.rf j) y) kl ki k x := by
  show Gr (match cellD s.ce[j]?, keyD y with
    | some kvs, some k => .ok ((valKD kvs k).getD z) s
    | _, _ => .no) kl ki k x
  rw [e, ek]
  exact h
theorem Du.n_getD {fo fk fx : DE} (h : Ge fo s (fun o s => isDic s.ce o = true ∧ Ge fk s (fun y s => Ge fx s (fun z s => Gr (getK s z o y) kl ki k x) x) x) x) : Gn (dGetD fo fk fx) s kl ki k x :=
  gr_bind (Gr.m1 h fun o s ⟨e, h⟩ => by
    show Gr (if isDic s.ce o = true then _ else _) kl ki k x
    rw [if_pos e]
    exact gr_bind (Gr.m1 h fun y s h => gr_bind (Gr.m1 h fun z s h => h)))
theorem Du.n_subD {fo fk : DE} (h : Ge fo s (fun o s => Ge fk s (fun y s => Gr (subK s o y) kl ki k x) x) x) : Gn (dSubD fo fk) s kl ki k x :=
  gr_bind (Gr.m1 h fun o s h => gr_bind (Gr.m1 h fun y s h => h))
theorem Du.gr_sub {kvs : List (Key × D)} {y : D} {ky : Key} {z : D} (e : s.ce[j]? = some (.dic kvs)) (ek : keyD y = some ky) (ev : valKD kvs ky = some z) (h : k z s) : Gr (subK s (.rf j) y) kl ki k x := by
  show Gr (match cellD s.ce[j]?, keyD y with
    | some kvs, some k => poK s (match valKD kvs k with
      | some d => .v d
      | none => .no)
    | _, _ => .no) kl ki k x
  rw [e, ek]
  show Gr (poK s (match valKD kvs ky with
      | some d => .v d
      | none => .no)) kl ki k x
  rw [ev]
  exact h
theorem Du.gr_keysT {kvs : List (Key × D)} {ks : List D} {v : Nat} (e0 : s.sl[i]? = some (some (.rf v))) (hj : j < s.sl.length) (e : s.ce[v]? = some (.dic kvs)) (ek : truesK kvs = some ks) (hl : kvs.length ≤ 100000) (hn : (kvs.map (·.1)).Nodup) (h : kl ks s) : Gn (dKeysT i j) s kl ki k x := by
  unfold Gn dKeysT
  rw [e0]
  show Gr (if j < s.sl.length then keysTD s (cellD s.ce[v]?) else .no) kl ki k x
  rw [if_pos hj, e]
  show Gr (keysTK s kvs (truesK kvs)) kl ki k x
  rw [ek]
  show Gr (if kvs.length ≤ 100000 ∧ (kvs.map (·.1)).Nodup then R.nl ks s else .no) kl ki k x
  rw [if_pos ⟨hl, hn⟩]
  exact h
theorem Du.n_sortSet (h : Ge f s (fun d s => ∃ ns : List Int, look s.ce d = some (ns.map .int) ∧ ns.length < 64 ∧ kl ((sset ns).map .int) s) x) : Gn (dSortSet f) s kl ki k x :=
  gr_bind (Gr.m1 h fun d s ⟨ns, e, hl, h⟩ => by
    show Gr (sortSetK s (look s.ce d)) kl ki k x
    rw [e]
    show Gr (match intsD (ns.map .int) with
      | some ns => if ns.length < 64 then R.nl ((sset ns).map .int) s else .no
      | none => .no) kl ki k x
    rw [intsD_map]
    show Gr (if ns.length < 64 then R.nl ((sset ns).map .int) s else .no) kl ki k x
    rw [if_pos hl]
    exact h)
theorem Du.n_listRg2 (h : Ge f s (fun d s => Ge g s (fun w s => ∃ a b : Int, d = .int a ∧ w = .int b ∧ 0 ≤ a ∧ a ≤ 100000 ∧ 0 ≤ b ∧ b ≤ 100000 ∧ kl (rngD a (b - a).toNat) s) x) x) : Gn (dListRg2 f g) s kl ki k x :=
  gr_bind (Gr.m1 h fun d s h => gr_bind (Gr.m1 h fun w s ⟨a, b, e1, e2, h1, h2, h3, h4, h'⟩ => by
    subst e1
    subst e2
    show Gr (if 0 ≤ a ∧ a ≤ 100000 ∧ 0 ≤ b ∧ b ≤ 100000 then R.nl (rngD a (b - a).toNat) s else .no) kl ki k x
    rw [if_pos ⟨h1, h2, h3, h4⟩]
    exact h'))
/-! walked things -/
theorem Du.i_L (h : Gn f s kA noI (fun d s => ∃ xs, (d = .lst xs ∨ d = .ro xs) ∧ kA xs s) x) : Gi (iL f) s kA x := by
  unfold Gn Gi iL at *
  generalize f s = r at *
  cases r with
  | ok d s =>
    obtain ⟨xs, e, h⟩ := h
    rcases e with e | e
    · subst e
      exact h
    · subst e
      exact h
  | _ => exact h
theorem Du.i_T (h : Ge f s (fun d s => ∃ xs, d = .tup xs ∧ kA xs s) x) : Gi (iT f) s kA x := by
  unfold Ge Gi iT at *
  generalize f s = r at *
  cases r with
  | ok d s =>
    obtain ⟨xs, e, h⟩ := h
    subst e
    exact h
  | _ => exact h
theorem Du.i_A {kk : List D → Option (List D)} (h : Ga ga s (fun ds s => ∃ xs, kk ds = some xs ∧ kA xs s) x) : Gi (iA kk ga) s kA x :=
  gi_bindA (GrA.m1 h fun ds s ⟨xs, e, h⟩ => by
    show GrI (opI s (kk ds)) kA x
    rw [e]
    exact h)
theorem Du.n_listZip (h : Gi (iA zipU ga) s kl x) : Gn (dListZip ga) s kl ki k x := gr_bindI (GrI.m1 h fun _ _ h => h)
end

/-! statements -/
section
variable {k : KD} {x : KX} {s s' : S} {f g h : DE} {ga : DA} {tb tc : DB} {d a b : D} {i j l n : Nat} {nx bk ct : KS} {rt : R → Prop} {sa sb : DS}
theorem Du.s_set' (h : Ge f s (fun d s => nx ⟨s.sl.set i (some d), s.ce, s.n0⟩) x) : Gs (sSet i f) s nx bk ct rt x := go_bindR (Gr.m1 h fun _ _ h => h)
theorem Du.s_seq' (h : Gs sa s (fun s => Gs sb s nx bk ct rt x) bk ct rt x) : Gs (sSeq sa sb) s nx bk ct rt x := by
  unfold Gs sSeq at *
  generalize sa s = r at *
  cases r with
  | _ => exact h
theorem Du.s_next' (h : nx s) : Gs sNext s nx bk ct rt x := h
theorem Du.s_brk' (h : bk s) : Gs sBrk s nx bk ct rt x := h
theorem Du.s_cont' (h : ct s) : Gs sCont s nx bk ct rt x := h
theorem Du.s_if' (h : Gb tb s (fun t s => Br t (Gs sa s nx bk ct rt x) (Gs sb s nx bk ct rt x)) x) : Gs (sIf tb sa sb) s nx bk ct rt x :=
  go_bindB (GrB.m1 h fun t s h => by cases t <;> exact h)
theorem Du.s_ret' (h : Gn f s (fun xs s => rt (.nl xs s)) (fun c fs s => rt (.ni c fs s)) (fun d s => rt (.ok d s)) x) : Gs (sRet f) s nx bk ct rt x := by
  unfold Gs sRet Gn at *
  generalize f s = r at *
  cases r with
  | _ => exact h
theorem Du.s_drop' (h : Gn f s (fun _ s => nx s) (fun _ _ s => nx s) (fun _ s => nx s) x) : Gs (sDrop f) s nx bk ct rt x := by
  unfold Gs sDrop Gn at *
  generalize f s = r at *
  cases r with
  | _ => exact h
theorem Du.s_raise' {c : Nat} (h : x ⟨c, []⟩ s) : Gs (sRaise c) s nx bk ct rt x := h
theorem Du.s_asg' {t : DT} (h : Ge f s (fun d s => ∃ s', t d s = some s' ∧ nx s') x) : Gs (sAsg t f) s nx bk ct rt x :=
  go_bindR (Gr.m1 h fun d s ⟨s', e, h⟩ => by
    show GrO (tgK s (t d s)) nx bk ct rt x
    rw [e]
    exact h)
theorem Du.s_par2' (h : Ga ga s (fun ds s => ∃ a b, ds = [a, b] ∧ nx ⟨(s.sl.set i (some a)).set j (some b), s.ce, s.n0⟩) x) : Gs (sPar2 i j ga) s nx bk ct rt x :=
  go_bindA (GrA.m1 h fun ds s ⟨a, b, e, h⟩ => by
    subst e
    exact h)
theorem Du.s_par3' (h : Ga ga s (fun ds s => ∃ a b c, ds = [a, b, c] ∧ nx ⟨((s.sl.set i (some a)).set j (some b)).set l (some c), s.ce, s.n0⟩) x) : Gs (sPar3 i j l ga) s nx bk ct rt x :=
  go_bindA (GrA.m1 h fun ds s ⟨a, b, c, e, h⟩ => by
    subst e
    exact h)
theorem Du.s_setF' {c0 : Nat} {nm : Str} {fo fv : DE} (h : Ge fv s (fun d s => Ge fo s (fun o s => ∃ j fs, o = .rf j ∧ s.ce[j]? = some (.ins c0 fs) ∧ fs.length < 900 ∧ nx ⟨s.sl, s.ce.set j (.ins c0 (putFD nm d fs)), s.n0⟩) x) x) : Gs (sSetF c0 nm fo fv) s nx bk ct rt x :=
  go_bindR (Gr.m1 h fun d s h => go_bindR (Gr.m1 h fun o s ⟨j, fs, e1, e2, hl, h⟩ => by
    subst e1
    show GrO (match s.ce[j]? with
      | some (.ins c fs) => if c = c0 ∧ fs.length < 900 then O.nx ⟨s.sl, s.ce.set j (.ins c (putFD nm d fs)), s.n0⟩ else .no
      | _ => .no) nx bk ct rt x
    rw [e2]
    show GrO (if c0 = c0 ∧ fs.length < 900 then O.nx ⟨s.sl, s.ce.set j (.ins c0 (putFD nm d fs)), s.n0⟩ else .no) nx bk ct rt x
    rw [if_pos ⟨rfl, hl⟩]
    exact h))
theorem Du.s_setI' {fo fi fv : DE} (h : Ge fv s (fun d s => Ge fo s (fun o s => Ge fi s (fun ix s => ∃ j xs i n, o = .rf j ∧ ix = .int i ∧ s.ce[j]? = some (.lst xs) ∧ ixN xs.length i = some n ∧ nx ⟨s.sl, s.ce.set j (.lst (xs.set n d)), s.n0⟩) x) x) x) : Gs (sSetI fo fi fv) s nx bk ct rt x :=
  go_bindR (Gr.m1 h fun d s h => go_bindR (Gr.m1 h fun o s h => go_bindR (Gr.m1 h fun ix s ⟨j, xs, i, n, e1, e2, e3, e4, h'⟩ => by
    subst e1
    subst e2
    show GrO (match cellL s.ce[j]? with
      | some xs => match ixN xs.length i with
        | some k => O.nx ⟨s.sl, s.ce.set j (.lst (xs.set k d)), s.n0⟩
        | none => .no
      | none => .no) nx bk ct rt x
    rw [e3]
    show GrO (match ixN xs.length i with
        | some k => O.nx ⟨s.sl, s.ce.set j (.lst (xs.set k d)), s.n0⟩
        | none => .no) nx bk ct rt x
    rw [e4]
    exact h')))
theorem Du.s_putD' {fo fk fv : DE} (h : Ge fv s (fun d s => Ge fo s (fun o s => Ge fk s (fun y s => ∃ j kvs ky, o = .rf j ∧ s.ce[j]? = some (.dic kvs) ∧ keyD y = some ky ∧ kvs.length < 100000 ∧ nx ⟨s.sl, s.ce.set j (.dic (putKD kvs ky d)), s.n0⟩) x) x) x) : Gs (sPutD fo fk fv) s nx bk ct rt x :=
  go_bindR (Gr.m1 h fun d s h => go_bindR (Gr.m1 h fun o s h => go_bindR (Gr.m1 h fun y s ⟨j, kvs, ky, e1, e2, e3, hl, h'⟩ => by
    subst e1
    show GrO (match cellD s.ce[j]?, keyD y with
      | some kvs, some k => if kvs.length < 100000 then O.nx ⟨s.sl, s.ce.set j (.dic (putKD kvs k d)), s.n0⟩ else .no
      | _, _ => .no) nx bk ct rt x
    rw [e2, e3]
    show GrO (if kvs.length < 100000 then O.nx ⟨s.sl, s.ce.set j (.dic (putKD kvs ky d)), s.n0⟩ else .no) nx bk ct rt x
    rw [if_pos hl]
    exact h')))
theorem Du.s_aug' {kk : Int → Int → Int} (h : ∃ u, s.sl[i]? = some (some (.int u)) ∧ Ge f s (fun d s => ∃ v, d = .int v ∧ nx ⟨s.sl.set i (some (.int (kk u v))), s.ce, s.n0⟩) x) : Gs (sAug i kk f) s nx bk ct rt x := by
  obtain ⟨u, e, h⟩ := h
  unfold Gs sAug
  rw [e]
  exact go_bindR (Gr.m1 h fun d s ⟨v, e, h⟩ => by
    subst e
    exact h)
/-- a loop by what holds between its turns -/
theorem Du.s_loop {t : DT} {body : DS} (I : Nat → S → Prop) : ∀ (xs : List D) (i : Nat) (s : S), I i s →
    (∀ j d s, xs[j]? = some d → I (i + j) s → ∃ s1, t d s = some s1 ∧ Gs body s1 (I (i + j + 1)) nx (I (i + j + 1)) rt x) → (∀ s, I (i + xs.length) s → nx s) → GrO (loop t body xs s) nx bk ct rt x
  | [], i, s, h0, _, hd => hd s h0
  | d :: ds, i, s, h0, hs, hd => by
    obtain ⟨s1, h1, h2⟩ := hs 0 d s rfl h0
    unfold loop
    rw [h1]
    show GrO (loopK (body s1) (loop t body ds)) nx bk ct rt x
    have ih := fun s (h : I (i + 1) s) => s_loop I ds (i + 1) s h (fun j d s h1 h2 => by
      have e : i + 1 + j = i + (j + 1) := by omega
      rw [e] at h2 ⊢
      exact hs (j + 1) d s h1 h2) (fun s h => by
      have e : i + 1 + ds.length = i + (d :: ds).length := by
        rw [List.length_cons]
        omega
      rw [e] at h
      exact hd s h)
    have h2' : GrO (body s1) (I (i + 1)) nx (I (i + 1)) rt x := h2
    generalize body s1 = o at *
    cases o with
    | nx s => exact ih s h2'
    | ct s => exact ih s h2'
    | _ => exact h2'
theorem Du.s_for' {it : DI} {t : DT} {body : DS} (h : Gi it s (fun xs s => ∃ I : Nat → S → Prop, I 0 s ∧ (∀ j d s, xs[j]? = some d → I j s → ∃ s1, t d s = some s1 ∧ Gs body s1 (I (j + 1)) nx (I (j + 1)) rt x) ∧ ∀ s, I xs.length s → nx s) x) : Gs (sFor it t body) s nx bk ct rt x :=
  go_bindI (GrI.m1 h fun xs s ⟨I, h0, hs, hd⟩ => s_loop I xs 0 s h0 (fun j d s h1 h2 => by
    rw [Nat.zero_add] at h2 ⊢
    exact hs j d s h1 h2) (fun s h => hd s (by rw [Nat.zero_add] at h; exact h)))
end
/-! comprehensions -/
section
variable {kl : KL'} {ki : KI'} {k : KD} {x : KX} {s : S} {f : DE} {tb : DB} {t : DT} {vs : List Nat} {gd : S → Bool} {c : DB}
/-- what a block's test and element give: the cells it leaves -/
theorem Du.comp_inv (I : Nat → List D → List Cell → Prop) : ∀ (xs acc : List D) (i : Nat) (s : S), I i acc s.ce → (∀ acc ce i, I i acc ce → gd ⟨s.sl, ce, s.n0⟩ = true) →
    (∀ j d acc ce, xs[j]? = some d → I (i + j) acc ce → ∃ s1, t d ⟨wipeD s.sl vs, ce, ce.length⟩ = some s1 ∧
      Gb c s1 (fun b s2 => Br b (Ge f s2 (fun v s3 => I (i + j + 1) (acc ++ [v]) s3.ce) (fun _ _ => False)) (I (i + j + 1) acc s2.ce)) (fun _ _ => False)) →
    (∀ acc ce, I (i + xs.length) acc ce → kl acc ⟨s.sl, ce, s.n0⟩) → (∀ i acc ce, I i acc ce → acc.length ≤ i) → i + xs.length ≤ 100000 → Gr (compL gd t vs c f xs acc s) kl ki k x
  | [], acc, i, s, h0, hg, _, hd, _, _ => by
    unfold compL
    rw [if_pos (hg acc s.ce i h0)]
    exact hd acc s.ce h0
  | d :: ds, acc, i, s, h0, hg, hs, hd, hl, hb => by
    obtain ⟨s1, h1, h2⟩ := hs 0 d acc s.ce rfl h0
    unfold compL
    rw [if_pos (hg acc s.ce i h0)]
    have h1' : t d (inS vs s) = some s1 := h1
    rw [h1']
    have hb' : i + 1 + ds.length ≤ 100000 := by
      rw [List.length_cons] at hb
      omega
    have ih := fun acc (s' : S) (h : I (i + 1) acc s'.ce) => comp_inv I ds acc (i + 1) (outS s s') h hg (fun j d acc ce h1 h2 => by
      have e : i + 1 + j = i + (j + 1) := by omega
      rw [e] at h2 ⊢
      exact hs (j + 1) d acc ce h1 h2) (fun acc ce h => by
      have e : i + 1 + ds.length = i + (d :: ds).length := by
        rw [List.length_cons]
        omega
      rw [e] at h
      exact hd acc ce h) hl hb'
    have h2' : GrB (c s1) (fun b s2 => Br b (Ge f s2 (fun v s3 => I (i + 1) (acc ++ [v]) s3.ce) (fun _ _ => False)) (I (i + 1) acc s2.ce)) (fun _ _ => False) := h2
    show Gr (okB (c s1) _) kl ki k x
    generalize c s1 = r at *
    cases r with
    | ok b s2 =>
      cases b with
      | false => exact ih acc s2 h2'
      | true =>
        have h3 : Gr (f s2) noL noI (fun v s3 => I (i + 1) (acc ++ [v]) s3.ce) (fun _ _ => False) := h2'
        show Gr (okR (f s2) _) kl ki k x
        generalize f s2 = r at *
        cases r with
        | ok v s3 =>
          show Gr (if acc.length < 100000 then _ else _) kl ki k x
          have := hl i acc s.ce h0
          rw [List.length_cons] at hb
          rw [if_pos (by omega)]
          exact ih _ s3 h3
        | _ => exact h3.elim
    | _ => exact h2'.elim
end
end Dv

set_option maxRecDepth 100000
set_option maxHeartbeats 4000000
/-! Go: a def's function, taken from its body -/
namespace Dv
namespace Du
end Du
open Du
open PySem PySem.Spec PyProof.Rows L2

section
open Classical
/-- a body's end as its def's answer -/
noncomputable def fin (ce : List Cell) : O → FR
  | .nx s => if Tail ce (s.ce.take ce.length) s then .ok .non (s.ce.take ce.length) else .no
  | .rt d s => if Tail ce (s.ce.take ce.length) s ∧ low ce.length d = true then .ok d (s.ce.take ce.length) else .ok d s.ce
  | .rl xs s => if Tail ce (s.ce.take ce.length) s ∧ lowL ce.length xs = true then .nl xs (s.ce.take ce.length) else .nl xs s.ce
  | .ri c fs s => if Tail ce (s.ce.take ce.length) s ∧ lowF ce.length fs = true then .ni c fs (s.ce.take ce.length) else .no
  | .er x s => if Tail ce (s.ce.take ce.length) s ∧ lowF ce.length x.fs = true then .er x (s.ce.take ce.length) else .no
  | _ => .no
noncomputable def Du.Run (n : Nat) (b : DS) : Fn := fun ds ce => if ds.length ≤ n then fin ce (b (initS n ds ce)) else .no
theorem Du.does_run (n : Nat) (b : DS) : Does n b (Run n b) := fun ds ce hl => by
  unfold Run
  rw [if_pos hl]
  cases e : b (initS n ds ce) with
  | nx s =>
    show DoesK ce _ (if Tail ce (s.ce.take ce.length) s then FR.ok .non (s.ce.take ce.length) else .no)
    by_cases h : Tail ce (s.ce.take ce.length) s
    · rw [if_pos h]
      exact .inr (.inl ⟨rfl, s, rfl, h⟩)
    · rw [if_neg h]
      trivial
  | rt d s =>
    show DoesK ce _ (if Tail ce (s.ce.take ce.length) s ∧ low ce.length d = true then FR.ok d (s.ce.take ce.length) else .ok d s.ce)
    by_cases h : Tail ce (s.ce.take ce.length) s ∧ low ce.length d = true
    · rw [if_pos h]
      exact .inl ⟨s, rfl, h.2, h.1⟩
    · rw [if_neg h]
      exact .inr (.inr ⟨s, rfl, rfl⟩)
  | rl d s =>
    show DoesK ce _ (if Tail ce (s.ce.take ce.length) s ∧ lowL ce.length d = true then FR.nl d (s.ce.take ce.length) else .nl d s.ce)
    by_cases h : Tail ce (s.ce.take ce.length) s ∧ lowL ce.length d = true
    · rw [if_pos h]
      exact .inl ⟨s, rfl, h.2, h.1⟩
    · rw [if_neg h]
      exact .inr ⟨s, rfl, rfl⟩
  | ri c d s =>
    show DoesK ce _ (if Tail ce (s.ce.take ce.length) s ∧ lowF ce.length d = true then FR.ni c d (s.ce.take ce.length) else .no)
    by_cases h : Tail ce (s.ce.take ce.length) s ∧ lowF ce.length d = true
    · rw [if_pos h]
      exact ⟨s, rfl, h.2, h.1⟩
    · rw [if_neg h]
      trivial
  | er d s =>
    show DoesK ce _ (if Tail ce (s.ce.take ce.length) s ∧ lowF ce.length d.fs = true then FR.er d (s.ce.take ce.length) else .no)
    by_cases h : Tail ce (s.ce.take ce.length) s ∧ lowF ce.length d.fs = true
    · rw [if_pos h]
      exact ⟨s, rfl, h.2, h.1⟩
    · rw [if_neg h]
      trivial
  | _ => trivial
/-- a value handed back, told by the caller's cells -/
def Du.Ret (ce : List Cell) (Q : FR → Prop) (r : R) : Prop := match r with
  | .ok d s => (∃ ce', Tail ce ce' s ∧ low ce.length d = true ∧ Q (.ok d ce')) ∨ (low ce.length d = false ∧ Q (.ok d s.ce))
  | .nl d s => (∃ ce', Tail ce ce' s ∧ lowL ce.length d = true ∧ Q (.nl d ce')) ∨ (lowL ce.length d = false ∧ Q (.nl d s.ce))
  | .ni c d s => ∃ ce', Tail ce ce' s ∧ lowF ce.length d = true ∧ Q (.ni c d ce')
  | .er x s => ∃ ce', Tail ce ce' s ∧ lowF ce.length x.fs = true ∧ Q (.er x ce')
  | .no => False
theorem Tail.take {ce ce' : List Cell} {s : S} (t : Tail ce ce' s) : s.ce.take ce.length = ce' := by
  obtain ⟨junk, h⟩ := t.ex
  rw [h, ← t.len, List.take_left']
  rfl
theorem Du.fin_go {ce : List Cell} {Q : FR → Prop} {o : O} (h : GrO o (fun s => Ret ce Q (.ok .non s)) (fun _ => False) (fun _ => False) (Ret ce Q) (fun e s => Ret ce Q (.er e s))) : Q (fin ce o) := by
  cases o with
  | nx s =>
    rcases h with h | ⟨h, _⟩
    case inr => cases h
    obtain ⟨ce', t, _, q⟩ := h
    show Q (if Tail ce (s.ce.take ce.length) s then FR.ok .non (s.ce.take ce.length) else .no)
    rw [t.take, if_pos t]
    exact q
  | rt d s =>
    show Q (if Tail ce (s.ce.take ce.length) s ∧ low ce.length d = true then FR.ok d (s.ce.take ce.length) else .ok d s.ce)
    rcases h with h | ⟨l, q⟩
    case inr =>
      rw [if_neg fun z => by rw [l] at z; cases z.2]
      exact q
    obtain ⟨ce', t, l, q⟩ := h
    rw [t.take, if_pos ⟨t, l⟩]
    exact q
  | rl d s =>
    show Q (if Tail ce (s.ce.take ce.length) s ∧ lowL ce.length d = true then FR.nl d (s.ce.take ce.length) else .nl d s.ce)
    rcases h with h | ⟨l, q⟩
    case inr =>
      rw [if_neg fun z => by rw [l] at z; cases z.2]
      exact q
    obtain ⟨ce', t, l, q⟩ := h
    rw [t.take, if_pos ⟨t, l⟩]
    exact q
  | ri c d s =>
    obtain ⟨ce', t, l, q⟩ := h
    show Q (if Tail ce (s.ce.take ce.length) s ∧ lowF ce.length d = true then FR.ni c d (s.ce.take ce.length) else .no)
    rw [t.take, if_pos ⟨t, l⟩]
    exact q
  | er d s =>
    obtain ⟨ce', t, l, q⟩ := h
    show Q (if Tail ce (s.ce.take ce.length) s ∧ lowF ce.length d.fs = true then FR.er d (s.ce.take ce.length) else .no)
    rw [t.take, if_pos ⟨t, l⟩]
    exact q
  | _ => exact h.elim
end
/-- a def's function by its body -/
theorem Du.run_go {n : Nat} {b : DS} {ds : List D} {ce : List Cell} {Q : FR → Prop} (hl : ds.length ≤ n) (h : Gs b (initS n ds ce) (fun s => Ret ce Q (.ok .non s)) (fun _ => False) (fun _ => False) (Ret ce Q) (fun e s => Ret ce Q (.er e s))) : Q (Run n b ds ce) := by
  unfold Run
  rw [if_pos hl]
  exact fin_go h
/-- what a def's function is known for -/
def Du.Fs (r : FR) (P : (FR → Prop) → Prop) : Prop := ∀ Q, P Q → Q r
section
variable {ce ce' own : List Cell} {sl : List (Option D)} {n0 : Nat} {Q : FR → Prop} {d : D} {xs : List D} {c : Nat} {fs : List (Str × D)} {e : Xc} {r : FR} {P : (FR → Prop) → Prop}
variable {kl : KL'} {ki : KI'} {k : KD} {x : KX}
theorem Du.gf_use {s : S} (h : Fs r P) (q : P fun r => Gf r s kl ki k x) : Gf r s kl ki k x := h _ q
theorem Du.gf_ok (h : k d ⟨sl, ce', n0⟩) : Gf (.ok d ce') ⟨sl, ce, n0⟩ kl ki k x := h
theorem Du.gf_nl (h : kl xs ⟨sl, ce', n0⟩) : Gf (.nl xs ce') ⟨sl, ce, n0⟩ kl ki k x := h
theorem Du.gf_ni (h : ki c fs ⟨sl, ce', n0⟩) : Gf (.ni c fs ce') ⟨sl, ce, n0⟩ kl ki k x := h
theorem Du.gf_er (h : x e ⟨sl, ce', n0⟩) : Gf (.er e ce') ⟨sl, ce, n0⟩ kl ki k x := h
theorem Du.gf_eq {r r' : FR} {s : S} (e : r = r') (h : Gf r' s kl ki k x) : Gf r s kl ki k x := by rw [e]; exact h
theorem Du.fs_eq (e : r = .ok d ce') : Fs r fun Q => Q (.ok d ce') := fun Q h => by rw [e]; exact h
theorem Du.ret_ok (t : Tail ce ce' ⟨sl, own, n0⟩) (hl : low ce.length d = true) (q : Q (.ok d ce')) : Ret ce Q (.ok d ⟨sl, own, n0⟩) := .inl ⟨ce', t, hl, q⟩
theorem Du.ret_nl (t : Tail ce ce' ⟨sl, own, n0⟩) (hl : lowL ce.length xs = true) (q : Q (.nl xs ce')) : Ret ce Q (.nl xs ⟨sl, own, n0⟩) := .inl ⟨ce', t, hl, q⟩
theorem Du.ret_ni (t : Tail ce ce' ⟨sl, own, n0⟩) (hl : lowF ce.length fs = true) (q : Q (.ni c fs ce')) : Ret ce Q (.ni c fs ⟨sl, own, n0⟩) := ⟨ce', t, hl, q⟩
theorem Du.ret_okX (hl : low ce.length d = false) (q : Q (.ok d own)) : Ret ce Q (.ok d ⟨sl, own, n0⟩) := .inr ⟨hl, q⟩
theorem Du.ret_nlX (hl : lowL ce.length xs = false) (q : Q (.nl xs own)) : Ret ce Q (.nl xs ⟨sl, own, n0⟩) := .inr ⟨hl, q⟩
theorem Du.ret_er (t : Tail ce ce' ⟨sl, own, n0⟩) (q : Q (.er ⟨c, []⟩ ce')) : Ret ce Q (.er ⟨c, []⟩ ⟨sl, own, n0⟩) := ⟨ce', t, rfl, q⟩
/-! the cells at the end -/
theorem tail_id : Tail ce ce ⟨sl, ce, n0⟩ := Tail.id rfl
theorem tail_own : Tail ce ce ⟨sl, ce ++ own, n0⟩ := Tail.same (junk := own) rfl
theorem tail_set {j : Nat} {c : Cell} (h : lowC ce.length c = true) : Tail ce (ce.set j c) ⟨sl, ce.set j c, n0⟩ := Tail.one (junk := []) (by rw [List.append_nil]) h
theorem tail_set_own {j : Nat} {c : Cell} (h : lowC ce.length c = true) : Tail ce (ce.set j c) ⟨sl, ce.set j c ++ own, n0⟩ := Tail.one (junk := own) rfl h
end
/-! slots -/
class SetN (l : List (Option D)) (i : Nat) (d : Option D) (l' : outParam (List (Option D))) : Prop where
  eq : l.set i d = l'
instance setN0 {a d : Option D} {l : List (Option D)} : SetN (a :: l) 0 d (d :: l) := ⟨rfl⟩
instance setN1 {a d : Option D} {l l' : List (Option D)} {i : Nat} [h : SetN l i d l'] : SetN (a :: l) (i + 1) d (a :: l') := ⟨by rw [← h.eq]; rfl⟩
class WipN (l : List (Option D)) (vs : List Nat) (l' : outParam (List (Option D))) : Prop where
  eq : wipeD l vs = l'
instance wipN0 {l : List (Option D)} : WipN l [] l := ⟨rfl⟩
instance wipN1 {l l1 l2 : List (Option D)} {v : Nat} {vs : List Nat} [h : WipN l vs l1] [h2 : SetN l1 v none l2] : WipN l (v :: vs) l2 := ⟨by
  show (wipeD l vs).set v none = l2
  rw [h.eq, h2.eq]⟩
section
variable {k : KD} {x : KX} {sl sl' sl'' sl3 : List (Option D)} {ce : List Cell} {n0 : Nat} {f : DE} {ga : DA} {i j l : Nat} {nx bk ct : KS} {rt : R → Prop}
def Du.SetK (i : Nat) (d : D) (s : S) (nx : KS) : Prop := nx ⟨s.sl.set i (some d), s.ce, s.n0⟩
theorem Du.setk {d : D} [h : SetN sl i (some d) sl'] (q : nx ⟨sl', ce, n0⟩) : SetK i d ⟨sl, ce, n0⟩ nx := by
  show nx ⟨sl.set i (some d), ce, n0⟩
  rw [h.eq]
  exact q
theorem Du.g_set {s : S} (h : Ge f s (fun d s => SetK i d s nx) x) : Gs (sSet i f) s nx bk ct rt x := s_set' h
theorem Du.g_par2 {s : S} (h : Ga ga s (fun ds s => ∃ a b, ds = [a, b] ∧ SetK i a s fun s => SetK j b s nx) x) : Gs (sPar2 i j ga) s nx bk ct rt x := s_par2' h
theorem Du.g_par3 {s : S} (h : Ga ga s (fun ds s => ∃ a b c, ds = [a, b, c] ∧ SetK i a s fun s => SetK j b s fun s => SetK l c s nx) x) : Gs (sPar3 i j l ga) s nx bk ct rt x := s_par3' h
/-- a target -/
def Du.TgK (t : DT) (d : D) (s : S) (nx : KS) : Prop := ∃ s', t d s = some s' ∧ nx s'
theorem Du.tg_name {d : D} {s : S} (h : SetK i d s nx) : TgK (tgN i) d s nx := ⟨_, rfl, h⟩
theorem Du.tg_pair {t1 t2 : DT} {d1 d2 : D} {s : S} (h : TgK t1 d1 s fun s => TgK t2 d2 s nx) : TgK (tgT [t1, t2]) (.tup [d1, d2]) s nx := by
  obtain ⟨s1, e1, s2, e2, h⟩ := h
  refine ⟨s2, ?_, h⟩
  show (t1 d1 s).bind (fun s => (t2 d2 s).bind fun s => some s) = _
  rw [e1]
  show (t2 d2 s1).bind (fun s => some s) = _
  rw [e2] <;> rfl
theorem Du.tg_three {t1 t2 t3 : DT} {d1 d2 d3 : D} {s : S} (h : TgK t1 d1 s fun s => TgK t2 d2 s fun s => TgK t3 d3 s nx) : TgK (tgT [t1, t2, t3]) (.tup [d1, d2, d3]) s nx := by
  obtain ⟨s1, e1, s2, e2, s3, e3, h⟩ := h
  refine ⟨s3, ?_, h⟩
  show (t1 d1 s).bind (fun s => (t2 d2 s).bind fun s => (t3 d3 s).bind fun s => some s) = _
  rw [e1]
  show (t2 d2 s1).bind (fun s => (t3 d3 s).bind fun s => some s) = _
  rw [e2]
  show (t3 d3 s2).bind (fun s => some s) = _
  rw [e3] <;> rfl
theorem Du.g_asg {s : S} {t : DT} (h : Ge f s (fun d s => TgK t d s nx) x) : Gs (sAsg t f) s nx bk ct rt x := s_asg' h
theorem Du.g_aug {kk : Int → Int → Int} {u : Int} (e : sl[i]? = some (some (.int u))) (h : Ge f ⟨sl, ce, n0⟩ (fun d s => ∃ v, d = .int v ∧ SetK i (.int (kk u v)) s nx) x) : Gs (sAug i kk f) ⟨sl, ce, n0⟩ nx bk ct rt x := s_aug' ⟨u, e, h⟩
/-- a loop -/
theorem Du.g_for {it : DI} {t : DT} {body : DS} {s : S} (h : Gi it s (fun xs s => ∃ I : Nat → S → Prop, I 0 s ∧ (∀ j d s, xs[j]? = some d → I j s → TgK t d s fun s => Gs body s (I (j + 1)) nx (I (j + 1)) rt x) ∧ ∀ s, I xs.length s → nx s) x) : Gs (sFor it t body) s nx bk ct rt x :=
  s_for' h
/-- a comprehension by what holds between its turns: cells may change -/
def Du.CompK (t : DT) (vs : List Nat) (c : DB) (f : DE) (xs : List D) (s : S) (kl : KL') : Prop := ∃ (I : Nat → List D → List Cell → Prop), I 0 [] s.ce ∧ xs.length ≤ 100000 ∧ (∀ i acc ce, I i acc ce → acc.length ≤ i) ∧
    (∀ j d acc ce, xs[j]? = some d → I j acc ce → TgK t d ⟨wipeD s.sl vs, ce, ce.length⟩ fun s1 => Gb c s1 (fun b s2 => Br b (Ge f s2 (fun v s3 => I (j + 1) (acc ++ [v]) s3.ce) (fun _ _ => False)) (I (j + 1) acc s2.ce)) (fun _ _ => False)) ∧
    (∀ acc ce, I xs.length acc ce → kl acc ⟨s.sl, ce, s.n0⟩)
theorem Du.comp_k {t : DT} {vs : List Nat} {c : DB} {xs : List D} {s : S} {kl : KL'} {ki : KI'} (h : CompK t vs c f xs s kl) : Gr (compL gYes t vs c f xs [] s) kl ki k x := by
  obtain ⟨I, h0, hl, hb, hs, hd⟩ := h
  exact comp_inv I xs [] 0 s h0 (fun _ _ _ _ => rfl) (fun j d acc ce h1 h2 => by
    rw [Nat.zero_add] at h2 ⊢
    exact hs j d acc ce h1 h2) (fun acc ce h => hd acc ce (by rw [Nat.zero_add] at h; exact h)) hb (by omega)
theorem Du.n_comp {it : DI} {t : DT} {vs : List Nat} {c : DB} {s : S} {kl : KL'} {ki : KI'} (h : Gi it s (fun xs s => CompK t vs c f xs s kl) x) : Gn (dComp it t vs c f) s kl ki k x :=
  gr_bindI (GrI.m1 h fun _ _ h => comp_k h)
theorem Du.n_compV {t : DT} {vs : List Nat} {c : DB} {s : S} {kl : KL'} {ki : KI'} {d : D} {xs : List D} (e : s.sl[i]? = some (some d)) (e2 : frL d = some xs) (h : CompK t vs c f xs s kl) : Gn (dCompV i t vs c f) s kl ki k x := by
  unfold Gn dCompV
  rw [e]
  cases d with
  | lst ys =>
    cases e2
    exact comp_k h
  | ro ys =>
    cases e2
    exact comp_k h
  | _ => cases e2
/-- .. pure: the cells stay -/
theorem Du.comp_pure {t : DT} {vs : List Nat} {c : DB} {xs : List D} {kl : KL'} (p : D → Bool) (g : D → D) (hl : xs.length ≤ 100000)
    (h : ∀ d ∈ xs, TgK t d ⟨wipeD sl vs, ce, ce.length⟩ fun s1 => Gb c s1 (fun b s2 => b = p d ∧ (p d = true → Ge f s2 (fun v s3 => v = g d ∧ s3.ce = ce) (fun _ _ => False)) ∧ (p d = false → s2.ce = ce)) (fun _ _ => False))
    (hd : kl ((xs.filter p).map g) ⟨sl, ce, n0⟩) : CompK t vs c f xs ⟨sl, ce, n0⟩ kl := by
  refine ⟨fun i acc ce' => acc = ((xs.take i).filter p).map g ∧ ce' = ce, ⟨rfl, rfl⟩, hl, ?_, ?_, ?_⟩
  · rintro i acc ce' ⟨rfl, _⟩
    rw [List.length_map]
    exact Nat.le_trans (List.length_filter_le _ _) (by rw [List.length_take]; omega)
  · rintro j d acc ce' hj ⟨rfl, rfl⟩
    obtain ⟨s1, e1, q⟩ := h d (List.mem_of_getElem? hj)
    refine ⟨s1, e1, ?_⟩
    have et : xs.take (j + 1) = xs.take j ++ [d] := by
      rw [List.take_succ, hj] <;> rfl
    refine GrB.m1 q fun b s2 ⟨h1, h2, h3⟩ => ?_
    subst h1
    cases hp : p d with
    | true =>
      refine br_t rfl (Gr.m1 (h2 hp) fun v s3 ⟨h4, h5⟩ => ⟨?_, h5⟩)
      rw [et, List.filter_append, List.map_append, h4]
      simp [List.filter, hp]
    | false =>
      refine br_f rfl ⟨?_, h3 hp⟩
      rw [et, List.filter_append, List.map_append]
      simp [List.filter, hp]
  · rintro acc ce' ⟨rfl, rfl⟩
    rw [List.take_length]
    exact hd
end
end Dv

set_option maxRecDepth 100000
set_option maxHeartbeats 4000000
/-! forms as sets of numbers -/
namespace Dv
open PySem PySem.Spec PyProof.Rows L2
abbrev lI (ns : List Int) : D := .lst (ns.map .int)
abbrev fo (ns : List Int) : D := .obj 0 [("_held", lI ns)]
def good (ns : List Int) : Bool := decide (ns.length ≤ 200) && ns.all (fun i => decide (1 ≤ i) && decide (i < 100000000000000000000)) && (ns.zip (ns.drop 1)).all fun p => decide (p.1 < p.2)
theorem pairs_ints : ∀ (a b : List Int), pairs (a.map .int) (b.map .int) = (a.zip b).map fun p => D.tup [.int p.1, .int p.2]
  | [], _ => by simp [pairs]
  | _ :: _, [] => by simp [pairs]
  | x :: a, y :: b => by
    have ih := pairs_ints a b
    show D.tup [.int x, .int y] :: pairs (a.map .int) (b.map .int) = _
    rw [ih] <;> rfl
def togB : List (Int × Bool) → Int → List (Int × Bool)
  | [], n => [(n, true)]
  | (k, b) :: r, n => if k = n then (k, !b) :: r else (k, b) :: togB r n
def dicB (kv : List (Int × Bool)) : List (Key × D) := kv.map fun p => (Sum.inl p.1, D.bl p.2)
def valB : List (Int × Bool) → Int → Option Bool
  | [], _ => none
  | (k, b) :: r, n => if k = n then some b else valB r n
theorem inl_inj {a b : Int} : ((Sum.inl a : Key) = Sum.inl b) ↔ a = b := ⟨fun h => by cases h; rfl, fun h => by rw [h]⟩
theorem val_dicB (n : Int) : ∀ kv : List (Int × Bool), valKD (dicB kv) (.inl n) = (valB kv n).map D.bl
  | [] => rfl
  | (k, b) :: r => by
    have ih := val_dicB n r
    show (if (Sum.inl k : Key) = Sum.inl n then some (D.bl b) else valKD (dicB r) (.inl n)) = _
    unfold valB
    by_cases h : k = n
    · rw [if_pos (inl_inj.mpr h), if_pos h] <;> rfl
    · rw [if_neg (fun z => h (inl_inj.mp z)), if_neg h, ih]
theorem valB_none {n : Int} : ∀ {kv : List (Int × Bool)}, valB kv n = none → n ∉ kv.map (·.1)
  | [], _ => by simp
  | (k, b) :: r, h => by
    unfold valB at h
    by_cases e : k = n
    · rw [if_pos e] at h
      cases h
    · rw [if_neg e] at h
      rw [List.map_cons, List.mem_cons]
      rintro (z | z)
      · exact e z.symm
      · exact valB_none h z
theorem tog_none {n : Int} : ∀ {kv : List (Int × Bool)}, valB kv n = none → togB kv n = kv ++ [(n, true)]
  | [], _ => rfl
  | (k, b) :: r, h => by
    unfold valB at h
    unfold togB
    by_cases e : k = n
    · rw [if_pos e] at h
      cases h
    · rw [if_neg e] at h
      rw [if_neg e, tog_none h] <;> rfl
theorem map_fresh {n : Int} {d : D} : ∀ {kv : List (Int × Bool)}, n ∉ kv.map (·.1) → (dicB kv).map (fun p => (p.1, if p.1 = (Sum.inl n : Key) then d else p.2)) = dicB kv
  | [], _ => rfl
  | (k, b) :: r, h => by
    rw [List.map_cons, List.mem_cons, not_or] at h
    have ih := map_fresh (d := d) h.2
    have e : ¬ (Sum.inl k : Key) = Sum.inl n := fun z => h.1 (inl_inj.mp z).symm
    show (Sum.inl k, if (Sum.inl k : Key) = Sum.inl n then d else D.bl b) :: (dicB r).map _ = (Sum.inl k, D.bl b) :: dicB r
    rw [if_neg e, ih]
theorem tog_some {n : Int} {x : Bool} : ∀ {kv : List (Int × Bool)}, (kv.map (·.1)).Nodup → valB kv n = some x → (dicB kv).map (fun p => (p.1, if p.1 = (Sum.inl n : Key) then D.bl (!x) else p.2)) = dicB (togB kv n)
  | [], _, h => by cases h
  | (k, b) :: r, nd, h => by
    rw [List.map_cons, List.nodup_cons] at nd
    unfold valB at h
    unfold togB
    by_cases e : k = n
    · rw [if_pos e] at h
      cases h
      rw [if_pos e]
      subst e
      show (Sum.inl k, if (Sum.inl k : Key) = Sum.inl k then D.bl (!x) else D.bl x) :: (dicB r).map _ = (Sum.inl k, D.bl (!x)) :: dicB r
      rw [if_pos rfl, map_fresh nd.1]
    · rw [if_neg e] at h
      rw [if_neg e]
      have ih := tog_some nd.2 h
      show (Sum.inl k, if (Sum.inl k : Key) = Sum.inl n then D.bl (!x) else D.bl b) :: (dicB r).map _ = (Sum.inl k, D.bl b) :: dicB (togB r n)
      rw [if_neg (fun z => e (inl_inj.mp z)), ih]
theorem tog_keys {n : Int} : ∀ {kv : List (Int × Bool)}, (togB kv n).map (·.1) = if n ∈ kv.map (·.1) then kv.map (·.1) else kv.map (·.1) ++ [n]
  | [] => rfl
  | (k, b) :: r => by
    have ih := tog_keys (n := n) (kv := r)
    unfold togB
    by_cases e : k = n
    · rw [if_pos e, if_pos (by rw [List.map_cons, e]; exact List.mem_cons_self)] <;> rfl
    · rw [if_neg e, List.map_cons, ih, List.map_cons]
      by_cases h : n ∈ r.map (·.1)
      · rw [if_pos h, if_pos (List.mem_cons_of_mem _ h)]
      · rw [if_neg h, if_neg (fun z => by
          rcases List.mem_cons.mp z with y | y
          · exact e y.symm
          · exact h y)] <;> rfl
theorem tog_nodup {n : Int} {kv : List (Int × Bool)} (h : (kv.map (·.1)).Nodup) : ((togB kv n).map (·.1)).Nodup := by
  rw [tog_keys]
  by_cases e : n ∈ kv.map (·.1)
  · rw [if_pos e]
    exact h
  · rw [if_neg e, List.nodup_append]
    exact ⟨h, by simp, fun a ha b hb z => by
      have : b = n := by simpa using hb
      subst this
      subst z
      exact e ha⟩
theorem tog_len {n : Int} : ∀ {kv : List (Int × Bool)}, (togB kv n).length ≤ kv.length + 1
  | [] => Nat.le_refl _
  | (k, b) :: r => by
    have ih := tog_len (n := n) (kv := r)
    unfold togB
    split
    · simp
    · simpa using ih
def odB (ns : List Int) : List (Int × Bool) := ns.foldl togB []
theorem odB_snoc (ns : List Int) (n : Int) : odB (ns ++ [n]) = togB (odB ns) n := by
  unfold odB
  rw [List.foldl_append] <;> rfl
theorem odB_nodup_len (ns : List Int) : ∀ i, ((odB (ns.take i)).map (·.1)).Nodup ∧ (odB (ns.take i)).length ≤ i
  | 0 => ⟨List.nodup_nil, Nat.le_refl _⟩
  | i + 1 => by
    obtain ⟨h1, h2⟩ := odB_nodup_len ns i
    cases e : ns[i]? with
    | none =>
      have : ns.take (i + 1) = ns.take i := by rw [List.take_add_one, e]; simp
      rw [this]
      exact ⟨h1, by omega⟩
    | some n =>
      have : ns.take (i + 1) = ns.take i ++ [n] := by rw [List.take_add_one, e] <;> rfl
      rw [this, odB_snoc]
      exact ⟨tog_nodup h1, Nat.le_trans tog_len (by omega)⟩
theorem put_dicB {kv : List (Int × Bool)} {n : Int} (nd : (kv.map (·.1)).Nodup) : putKD (dicB kv) (.inl n) (.bl (!((valB kv n).getD false))) = dicB (togB kv n) := by
  unfold putKD
  rw [val_dicB]
  cases e : valB kv n with
  | none =>
    rw [tog_none e]
    show dicB kv ++ [(Sum.inl n, D.bl true)] = dicB (kv ++ [(n, true)])
    unfold dicB
    rw [List.map_append] <;> rfl
  | some x => exact tog_some nd e
def oddI (ns : List Int) : List Int := isortI (((odB ns).filter (·.2)).map (·.1))
theorem trues_dicB : ∀ kv : List (Int × Bool), truesK (dicB kv) = some (((kv.filter (·.2)).map (·.1)).map D.int)
  | [] => rfl
  | (k, b) :: r => by
    have ih := trues_dicB r
    show (truesK (dicB r)).map (fun l => if b = true then ofKey (.inl k) :: l else l) = _
    rw [ih]
    cases b with
    | true => rfl
    | false => rfl
theorem cell_last {ce : List Cell} {c : Cell} : (ce ++ [c])[ce.length]? = some c := by simp
theorem set_last {ce : List Cell} {c c' : Cell} : (ce ++ [c]).set ce.length c' = ce ++ [c'] := by simp
def lcmI (i j : Int) : Int := ((Nat.lcm i.natAbs j.natAbs : Nat) : Int)
def lcms (a b : List Int) : List Int := (a.map fun i => b.map (lcmI i)).flatten
def slim (a : List Int) : Bool := a.all fun i => decide (bits i < 6000)
theorem lcms_len (a b : List Int) : (lcms a b).length = a.length * b.length := by
  unfold lcms
  induction a with
  | nil => simp
  | cons x r ih =>
    rw [List.map_cons, List.flatten_cons, List.length_append, ih, List.length_map, List.length_cons, Nat.add_mul, Nat.one_mul]
    omega
theorem low_fo (n : Nat) (a : List Int) : low n (fo a) = true := by
  show ((lowL n (a.map D.int)) && true) = true
  rw [lowL_ints] <;> rfl
theorem toPs_ints : ∀ a : List Int, toPs (a.map D.int) = some (a.map PyData.int)
  | [] => rfl
  | x :: r => by
    show (match toP (.int x), toPs (r.map D.int) with
      | some p, some ps => some (p :: ps)
      | _, _ => none) = _
    rw [toPs_ints r] <;> rfl
theorem eqv_ints : ∀ a b : List Int, PyData.eqvAll (a.map .int) (b.map .int) = decide (a = b)
  | [], [] => by simp [PyData.eqvAll]
  | x :: a, [] => by simp [PyData.eqvAll]
  | [], y :: b => by simp [PyData.eqvAll]
  | x :: a, y :: b => by
    rw [List.map_cons, List.map_cons]
    unfold PyData.eqvAll
    rw [eqv_ints a b]
    unfold PyData.eqv
    by_cases h1 : x = y <;> by_cases h2 : a = b <;> simp [h1, h2]
theorem lay_ints : ∀ a : List Int, PyData.canLayAll0 (a.map .int) = true ∧ PyData.depthAll (a.map .int) ≤ 1
  | [] => ⟨by simp [PyData.canLayAll0], by simp [PyData.depthAll]⟩
  | x :: r => by
    obtain ⟨h1, h2⟩ := lay_ints r
    rw [List.map_cons]
    unfold PyData.canLayAll0 PyData.depthAll
    rw [h1]
    refine ⟨by simp [PyData.canLay0], ?_⟩
    simp only [PyData.depth]
    omega
theorem shaped_ints (a : List Int) : SeqAt.shaped (.list (a.map .int)) = true := by
  obtain ⟨h1, h2⟩ := lay_ints a
  unfold SeqAt.shaped
  rw [Bool.and_eq_true]
  refine ⟨?_, decide_eq_true ?_⟩
  · unfold PyData.canLay0
    exact h1
  · unfold PyData.depth
    omega
theorem eq_ints (ce : List Cell) (a b : List Int) : pEq ce (lI a) (lI b) = .v (.bl (decide (a = b))) := by
  unfold pEq
  have e : ∀ c, toPc ce (lI c) = some (.list (c.map .int)) := fun c => by
    show (toPs (c.map D.int)).map PyData.list = _
    rw [toPs_ints] <;> rfl
  rw [e, e]
  show (if SeqAt.shaped (.list (a.map .int)) = true ∧ SeqAt.shaped (.list (b.map .int)) = true then Po.v (.bl (PyData.eqv (.list (a.map .int)) (.list (b.map .int)))) else .no) = _
  rw [if_pos ⟨shaped_ints a, shaped_ints b⟩]
  unfold PyData.eqv
  rw [eqv_ints]
theorem eq_int (ce : List Cell) (i j : Int) : pEq ce (.int i) (.int j) = .v (.bl (decide (i = j))) := rfl
theorem ne_int (ce : List Cell) (i j : Int) : pNe ce (.int i) (.int j) = .v (.bl (!(decide (i = j)))) := rfl
theorem mod_int (ce : List Cell) {i j : Int} (h : 0 < j) : pMod ce (.int i) (.int j) = .v (.int (i % j)) := by
  show (if 0 < j then Po.v (.int (i % j)) else .no) = _
  rw [if_pos h]
theorem div_int (ce : List Cell) {i j : Int} (h : 0 < j) (hb : bits j < 9000) : pDiv ce (.int i) (.int j) = .v (.int (i / j)) := by
  show (if 0 < j ∧ bits j < 9000 then Po.v (.int (i / j)) else .no) = _
  rw [if_pos ⟨h, hb⟩]
theorem mul_int (ce : List Cell) {i j : Int} (h : bits i + bits j < 900000) : pMul ce (.int i) (.int j) = .v (.int (i * j)) := by
  show (if bits i + bits j < 900000 then Po.v (.int (i * j)) else .no) = _
  rw [if_pos h]
section
variable {f g : DE} {s s1 s2 : S} {i j : Int}
end
theorem lowL_nil (n : Nat) : lowL n [] = true := rfl
def par (a : List Int) (i : Int) : Bool := decide (((a.filter fun d => decide (i % d = 0)).length : Int) % 2 = 1)
def posL (a : List Int) : Bool := a.all fun d => decide (0 < d)
def gcdI (i j : Int) : Int := ((Nat.gcd i.natAbs j.natAbs : Nat) : Int)
theorem gcdI_pos {i j : Int} (h : 1 ≤ j) : 0 < gcdI i j := by
  have : 0 < Nat.gcd i.natAbs j.natAbs := Nat.gcd_pos_of_pos_right _ (by omega)
  unfold gcdI
  omega
theorem log2_mono {m n : Nat} (h : m ≤ n) : m.log2 ≤ n.log2 := by
  by_cases h0 : m = 0
  · subst h0
    rw [Nat.log2_zero]
    exact Nat.zero_le _
  · have hn : n ≠ 0 := by omega
    exact (Nat.le_log2 hn).mpr (Nat.le_trans (Nat.log2_self_le h0) h)
theorem gcdI_bits {i j : Int} (h : 1 ≤ j) : bits (gcdI i j) ≤ bits j := by
  unfold bits gcdI
  rw [Int.natAbs_natCast]
  exact log2_mono (Nat.le_of_dvd (by omega) (Nat.gcd_dvd_right _ _))
end Dv

set_option maxRecDepth 100000
set_option maxHeartbeats 4000000
/-! forms as sets of numbers -/
namespace Dv
open PySem PySem.Spec PyProof.Rows L2
def pr : List Int → Int → Bool
  | [], _ => false
  | d :: r, n => xor (decide (n % d = 0)) (pr r n)
theorem par_pr (a : List Int) (n : Int) : par a n = pr a n := by
  unfold par
  induction a with
  | nil => rfl
  | cons d r ih =>
    unfold pr
    rw [← ih, List.filter_cons]
    by_cases h : n % d = 0
    · rw [if_pos (decide_eq_true h), decide_eq_true h, List.length_cons]
      by_cases h2 : ((r.filter fun d => decide (n % d = 0)).length : Int) % 2 = 1
      · rw [decide_eq_true h2, decide_eq_false (by omega)] <;> rfl
      · rw [decide_eq_false h2, decide_eq_true (by omega)] <;> rfl
    · rw [if_neg (by rw [decide_eq_false h]; decide), decide_eq_false h, Bool.false_xor]
theorem pr_app (a b : List Int) (n : Int) : pr (a ++ b) n = xor (pr a n) (pr b n) := by
  induction a with
  | nil =>
    show pr b n = xor false (pr b n)
    rw [Bool.false_xor]
  | cons d r ih =>
    show xor (decide (n % d = 0)) (pr (r ++ b) n) = xor (xor (decide (n % d = 0)) (pr r n)) (pr b n)
    rw [ih, Bool.xor_assoc]
theorem pr_perm {a b : List Int} (h : a.Perm b) (n : Int) : pr a n = pr b n := by
  induction h with
  | nil => rfl
  | cons x _ ih =>
    show xor _ _ = xor _ _
    rw [ih]
  | swap x y l =>
    show xor (decide (n % y = 0)) (xor (decide (n % x = 0)) (pr l n)) = xor (decide (n % x = 0)) (xor (decide (n % y = 0)) (pr l n))
    rw [← Bool.xor_assoc, Bool.xor_comm (decide (n % y = 0)), Bool.xor_assoc]
  | trans _ _ h1 h2 => exact h1.trans h2
def trB (kv : List (Int × Bool)) : List Int := (kv.filter (·.2)).map (·.1)
theorem pr_tog (k n : Int) : ∀ kv : List (Int × Bool), pr (trB (togB kv k)) n = xor (pr (trB kv) n) (decide (n % k = 0))
  | [] => by
    show xor (decide (n % k = 0)) false = xor false (decide (n % k = 0))
    rw [Bool.xor_comm]
  | (j, b) :: r => by
    have ih := pr_tog k n r
    unfold togB
    by_cases h : j = k
    · rw [if_pos h]
      subst h
      cases b with
      | true =>
        show pr (trB r) n = xor (xor (decide (n % j = 0)) (pr (trB r) n)) (decide (n % j = 0))
        cases decide (n % j = 0) <;> cases pr (trB r) n <;> rfl
      | false =>
        show xor (decide (n % j = 0)) (pr (trB r) n) = xor (pr (trB r) n) (decide (n % j = 0))
        rw [Bool.xor_comm]
    · rw [if_neg h]
      cases b with
      | true =>
        show xor (decide (n % j = 0)) (pr (trB (togB r k)) n) = xor (xor (decide (n % j = 0)) (pr (trB r) n)) (decide (n % k = 0))
        rw [ih, Bool.xor_assoc]
      | false => exact ih
theorem pr_fold (n : Int) : ∀ (ns : List Int) (kv : List (Int × Bool)), pr (trB (ns.foldl togB kv)) n = xor (pr (trB kv) n) (pr ns n)
  | [], kv => by
    show pr (trB kv) n = xor (pr (trB kv) n) false
    rw [Bool.xor_false]
  | k :: r, kv => by
    rw [List.foldl_cons, pr_fold n r, pr_tog]
    show _ = xor _ (xor (decide (n % k = 0)) (pr r n))
    rw [Bool.xor_assoc]
theorem pr_odd (ns : List Int) (n : Int) : pr (oddI ns) n = pr ns n := by
  unfold oddI
  rw [pr_perm (isortI_perm _)]
  have := pr_fold n ns []
  unfold trB at this
  show pr (((ns.foldl togB []).filter (·.2)).map (·.1)) n = _
  rw [this]
  show xor false _ = _
  rw [Bool.false_xor]
theorem odd_asc (ns : List Int) : (oddI ns).Pairwise (· < ·) := by
  have h1 := (odB_nodup_len ns ns.length).1
  rw [List.take_length] at h1
  have h2 : (((odB ns).filter (·.2)).map (·.1)).Nodup := (List.filter_sublist.map _).nodup h1
  have h3 : (oddI ns).Nodup := (isortI_perm _).nodup_iff.mpr h2
  have h4 := isortI_sorted (((odB ns).filter (·.2)).map (·.1))
  have h5 : (oddI ns).Pairwise (fun a b => a ≤ b ∧ a ≠ b) := List.Pairwise.and h4 h3
  exact h5.imp fun ⟨x, y⟩ => by omega
theorem tog_mem {k x : Int} : ∀ {kv : List (Int × Bool)}, x ∈ (togB kv k).map (·.1) → x = k ∨ x ∈ kv.map (·.1) := fun {kv} h => by
  rw [tog_keys] at h
  split at h
  · exact .inr h
  · rcases List.mem_append.mp h with z | z
    · exact .inr z
    · exact .inl (by simpa using z)
theorem fold_mem {x : Int} : ∀ (ns : List Int) (kv : List (Int × Bool)), x ∈ (ns.foldl togB kv).map (·.1) → x ∈ ns ∨ x ∈ kv.map (·.1)
  | [], _, h => .inr h
  | k :: r, kv, h => by
    rcases fold_mem r _ h with z | z
    · exact .inl (List.mem_cons_of_mem _ z)
    · rcases tog_mem z with y | y
      · exact .inl (by rw [y]; exact List.mem_cons_self)
      · exact .inr y
theorem odd_sub {ns : List Int} {x : Int} (h : x ∈ oddI ns) : x ∈ ns := by
  have h1 := (isortI_perm _).mem_iff.mp h
  have h2 : x ∈ (odB ns).map (·.1) := (List.filter_sublist.map _).mem h1
  rcases fold_mem ns [] h2 with z | z
  · exact z
  · cases z
structure Fm (a : List Int) : Prop where
  pos : ∀ x ∈ a, 0 < x
  asc : a.Pairwise (· < ·)
theorem Fm.tail {x : Int} {a : List Int} (h : Fm (x :: a)) : Fm a := ⟨fun y hy => h.pos y (List.mem_cons_of_mem _ hy), (List.pairwise_cons.mp h.asc).2⟩
theorem fm_odd {ns : List Int} (h : ∀ x ∈ ns, 0 < x) : Fm (oddI ns) := ⟨fun x hx => h x (odd_sub hx), odd_asc ns⟩
theorem pr_big {n : Int} (hn : 0 < n) : ∀ {a : List Int}, (∀ x ∈ a, n < x) → pr a n = false
  | [], _ => rfl
  | d :: r, h => by
    have hd := h d List.mem_cons_self
    show xor (decide (n % d = 0)) (pr r n) = false
    rw [pr_big hn fun x hx => h x (List.mem_cons_of_mem _ hx), Int.emod_eq_of_lt (by omega) hd, decide_eq_false (by omega)] <;> rfl
theorem pr_head {x : Int} {a : List Int} (h : Fm (x :: a)) : pr (x :: a) x = true := by
  show xor (decide (x % x = 0)) (pr a x) = true
  rw [Int.emod_self, pr_big (h.pos x List.mem_cons_self) (fun y hy => (List.pairwise_cons.mp h.asc).1 y hy)] <;> rfl
theorem fm_one : ∀ {a b : List Int}, Fm a → Fm b → (∀ n, 0 < n → pr a n = pr b n) → a = b
  | [], [], _, _, _ => rfl
  | [], y :: b, _, hb, h => by
    have := h y (hb.pos y List.mem_cons_self)
    rw [pr_head hb] at this
    cases this
  | x :: a, [], ha, _, h => by
    have := h x (ha.pos x List.mem_cons_self)
    rw [pr_head ha] at this
    cases this
  | x :: a, y :: b, ha, hb, h => by
    have hx := ha.pos x List.mem_cons_self
    have hy := hb.pos y List.mem_cons_self
    have e : x = y := by
      have low : ∀ {u v : Int} {c d : List Int}, Fm (u :: c) → Fm (v :: d) → u < v → pr (u :: c) u = pr (v :: d) u → False := fun {u v c d} h1 h2 lt q => by
        rw [pr_head h1, pr_big (h1.pos u List.mem_cons_self) (fun z hz => by
          rcases List.mem_cons.mp hz with w | w
          · omega
          · have := (List.pairwise_cons.mp h2.asc).1 z w
            omega)] at q
        cases q
      rcases Int.lt_trichotomy x y with z | z | z
      · exact (low ha hb z (h x hx)).elim
      · exact z
      · exact (low hb ha z (h y hy).symm).elim
    subst e
    rw [fm_one ha.tail hb.tail fun n hn => ?_]
    have := h n hn
    have q : xor (decide (n % x = 0)) (pr a n) = xor (decide (n % x = 0)) (pr b n) := this
    exact Bool.xor_right_inj.mp q
theorem mod_dvd {n d : Int} : n % d = 0 ↔ d.natAbs ∣ n.natAbs := by
  rw [Int.natAbs_dvd_natAbs]
  exact ⟨Int.dvd_of_emod_eq_zero, Int.emod_eq_zero_of_dvd⟩
theorem mod_lcm (n i j : Int) : decide (n % lcmI i j = 0) = (decide (n % i = 0) && decide (n % j = 0)) := by
  rw [Bool.eq_iff_iff, Bool.and_eq_true, decide_eq_true_iff, decide_eq_true_iff, decide_eq_true_iff, mod_dvd, mod_dvd, mod_dvd]
  unfold lcmI
  rw [Int.natAbs_natCast]
  exact Nat.lcm_dvd_iff
theorem pr_lcm1 (i n : Int) : ∀ b : List Int, pr (b.map (lcmI i)) n = (decide (n % i = 0) && pr b n)
  | [] => by
    show false = (_ && false)
    rw [Bool.and_false]
  | j :: b => by
    show xor (decide (n % lcmI i j = 0)) (pr (b.map (lcmI i)) n) = (decide (n % i = 0) && xor (decide (n % j = 0)) (pr b n))
    rw [mod_lcm, pr_lcm1 i n b]
    cases decide (n % i = 0) <;> cases decide (n % j = 0) <;> cases pr b n <;> rfl
theorem pr_lcms (b : List Int) (n : Int) : ∀ a : List Int, pr (lcms a b) n = (pr a n && pr b n)
  | [] => rfl
  | i :: a => by
    have e : lcms (i :: a) b = b.map (lcmI i) ++ lcms a b := by
      unfold lcms
      rw [List.map_cons, List.flatten_cons]
    rw [e, pr_app, pr_lcm1, pr_lcms b n a]
    show _ = (xor (decide (n % i = 0)) (pr a n) && pr b n)
    cases decide (n % i = 0) <;> cases pr a n <;> cases pr b n <;> rfl
theorem lcms_pos {a b : List Int} (ha : ∀ x ∈ a, 0 < x) (hb : ∀ x ∈ b, 0 < x) : ∀ x ∈ lcms a b, 0 < x := fun x hx => by
  unfold lcms at hx
  obtain ⟨l, hl, hx⟩ := List.mem_flatten.mp hx
  obtain ⟨i, hi, rfl⟩ := List.mem_map.mp hl
  obtain ⟨j, hj, rfl⟩ := List.mem_map.mp hx
  have h1 := ha i hi
  have h2 := hb j hj
  have : 0 < Nat.lcm i.natAbs j.natAbs := Nat.lcm_pos (by omega) (by omega)
  unfold lcmI
  omega
theorem mod_scaled (n : Int) {d f : Int} (hd : 0 < d) (hf : 1 ≤ f) : n % (d / gcdI d f) = 0 ↔ (n * f) % d = 0 := by
  have hg := gcdI_pos (i := d) hf
  have h1 : gcdI d f ∣ d := by
    unfold gcdI
    exact Int.natAbs_dvd_natAbs.mp (by rw [Int.natAbs_natCast]; exact Nat.gcd_dvd_left _ _)
  have h2 : gcdI d f ∣ f := by
    unfold gcdI
    exact Int.natAbs_dvd_natAbs.mp (by rw [Int.natAbs_natCast]; exact Nat.gcd_dvd_right _ _)
  obtain ⟨d', hd'⟩ := h1
  obtain ⟨f', hf'⟩ := h2
  have e1 : d / gcdI d f = d' := by
    have := Int.mul_ediv_cancel_left d' (by omega : gcdI d f ≠ 0)
    rw [← hd'] at this
    exact this
  have cop : Nat.Coprime d'.natAbs f'.natAbs := by
    have hgn : 0 < Nat.gcd d.natAbs f.natAbs := Nat.gcd_pos_of_pos_left _ (by omega)
    have a1 : d.natAbs = Nat.gcd d.natAbs f.natAbs * d'.natAbs := by
      have := congrArg Int.natAbs hd'
      rw [Int.natAbs_mul] at this
      unfold gcdI at this
      rwa [Int.natAbs_natCast] at this
    have a2 : f.natAbs = Nat.gcd d.natAbs f.natAbs * f'.natAbs := by
      have := congrArg Int.natAbs hf'
      rw [Int.natAbs_mul] at this
      unfold gcdI at this
      rwa [Int.natAbs_natCast] at this
    have := Nat.coprime_div_gcd_div_gcd hgn
    have b1 : d.natAbs / Nat.gcd d.natAbs f.natAbs = d'.natAbs := by
      have := Nat.mul_div_cancel_left d'.natAbs hgn
      rwa [← a1] at this
    have b2 : f.natAbs / Nat.gcd d.natAbs f.natAbs = f'.natAbs := by
      have := Nat.mul_div_cancel_left f'.natAbs hgn
      rwa [← a2] at this
    rwa [b1, b2] at this
  rw [e1, mod_dvd, mod_dvd]
  have hgn : 0 < (gcdI d f).natAbs := by omega
  have c1 : d.natAbs = (gcdI d f).natAbs * d'.natAbs := by
    have := congrArg Int.natAbs hd'
    rwa [Int.natAbs_mul] at this
  have c2 : f.natAbs = (gcdI d f).natAbs * f'.natAbs := by
    have := congrArg Int.natAbs hf'
    rwa [Int.natAbs_mul] at this
  rw [Int.natAbs_mul, c1, c2, show n.natAbs * ((gcdI d f).natAbs * f'.natAbs) = (gcdI d f).natAbs * (n.natAbs * f'.natAbs) from Nat.mul_left_comm ..]
  constructor
  · intro h
    exact Nat.mul_dvd_mul_left _ (Nat.dvd_trans h (Nat.dvd_mul_right _ _))
  · intro h
    exact cop.dvd_of_dvd_mul_right (Nat.dvd_of_mul_dvd_mul_left hgn h)
theorem pr_scaled (n : Int) {f : Int} (hf : 1 ≤ f) : ∀ {a : List Int}, (∀ x ∈ a, 0 < x) → pr (a.map fun d => d / gcdI d f) n = pr a (n * f)
  | [], _ => rfl
  | d :: a, h => by
    show xor (decide (n % (d / gcdI d f) = 0)) (pr (a.map _) n) = xor (decide ((n * f) % d = 0)) (pr a (n * f))
    rw [pr_scaled n hf (fun x hx => h x (List.mem_cons_of_mem _ hx))]
    congr 1
    exact decide_eq_decide.mpr (mod_scaled n (h d List.mem_cons_self) hf)
theorem pr_spread (n : Int) {f : Int} (hf : 1 ≤ f) : ∀ (a : List Int), pr (a.map fun d => d * f) n = (decide (n % f = 0) && pr a (n / f))
  | [] => by
    show false = (_ && false)
    rw [Bool.and_false]
  | d :: a => by
    show xor (decide (n % (d * f) = 0)) (pr (a.map _) n) = (decide (n % f = 0) && xor (decide (n / f % d = 0)) (pr a (n / f)))
    rw [pr_spread n hf a]
    have e : decide (n % (d * f) = 0) = (decide (n % f = 0) && decide (n / f % d = 0)) := by
      rw [Bool.eq_iff_iff, Bool.and_eq_true, decide_eq_true_iff, decide_eq_true_iff, decide_eq_true_iff]
      constructor
      · intro h
        obtain ⟨k, hk⟩ := Int.dvd_of_emod_eq_zero h
        have e2 : n = f * (d * k) := by rw [hk, Int.mul_comm d f, Int.mul_assoc]
        refine ⟨Int.emod_eq_zero_of_dvd ⟨_, e2⟩, ?_⟩
        rw [e2, Int.mul_ediv_cancel_left _ (by omega : f ≠ 0)]
        exact Int.emod_eq_zero_of_dvd ⟨k, rfl⟩
      · rintro ⟨h1, h2⟩
        obtain ⟨k, hk⟩ := Int.dvd_of_emod_eq_zero h1
        rw [hk, Int.mul_ediv_cancel_left _ (by omega : f ≠ 0)] at h2
        obtain ⟨j, hj⟩ := Int.dvd_of_emod_eq_zero h2
        refine Int.emod_eq_zero_of_dvd ⟨j, ?_⟩
        rw [hk, hj, ← Int.mul_assoc, Int.mul_comm f d]
    rw [e]
    cases decide (n % f = 0) <;> cases decide (n / f % d = 0) <;> cases pr a (n / f) <;> rfl
theorem bits_lt {i : Int} {k : Nat} (h0 : 0 ≤ i) (h : i < 2 ^ k) (hk : 0 < k) : bits i < k := by
  unfold bits
  by_cases z : i.natAbs = 0
  · rw [z, Nat.log2_zero]
    exact hk
  · refine (Nat.log2_lt z).mpr ?_
    have e : ((i.natAbs : Nat) : Int) = i := by omega
    have h2 : ((i.natAbs : Nat) : Int) < ((2 ^ k : Nat) : Int) := by
      rw [e, Int.natCast_pow]
      exact h
    exact Int.ofNat_lt.mp h2
section
variable {s : S} {j : Nat} {T : Tp}
end
section
variable {ce : List Cell} {j : Nat} {c c' d d' : Cell}
end
section
variable {s : S} {f g : DE} {i : Nat}
theorem insS_len (k : Int) : ∀ l : List Int, (insS k l).length ≤ l.length + 1
  | [] => Nat.le_refl _
  | a :: r => by
    have ih := insS_len k r
    unfold insS
    split
    · simp
    · split
      · simp
      · simpa using ih
theorem sset_len : ∀ l : List Int, (sset l).length ≤ l.length
  | [] => Nat.le_refl _
  | a :: r => by
    have ih := sset_len r
    have h := insS_len a (sset r)
    show (insS a (sset r)).length ≤ r.length + 1
    omega
theorem asc_zip : ∀ {l : List Int}, l.Pairwise (· < ·) → ((l.zip (l.drop 1)).all fun p => decide (p.1 < p.2)) = true
  | [], _ => rfl
  | [a], _ => rfl
  | a :: b :: r, h => by
    obtain ⟨h1, h2⟩ := List.pairwise_cons.mp h
    have ih := asc_zip h2
    show (decide (a < b) && (((b :: r).zip r).all fun p => decide (p.1 < p.2))) = true
    rw [decide_eq_true (h1 b List.mem_cons_self)]
    exact ih
end
section
variable {L : List Int} {s : S} {f : DE} {n : Int} {k : Nat}
end
theorem set_id {ce : List Cell} {j : Nat} {c : Cell} (h : ce[j]? = some c) : ce.set j c = ce := by
  apply List.ext_getElem?
  intro i
  by_cases e : i = j
  · subst e
    rw [List.getElem?_set_self (List.getElem?_eq_some_iff.mp h).1, h]
  · rw [List.getElem?_set_ne (Ne.symm e)]
theorem set_set {ce : List Cell} {j : Nat} {c d : Cell} : (ce.set j c).set j d = ce.set j d := by simp
def sel (b : Bool) (l : List Int) : List Int := if b = true then l else []
theorem pr_sel (b : Bool) (l : List Int) (n : Int) : pr (sel b l) n = (b && pr l n) := by
  cases b <;> rfl
theorem pr_one (n : Int) : pr [1] n = true := by
  show xor (decide (n % 1 = 0)) false = true
  rw [Int.emod_one, decide_eq_true rfl] <;> rfl
theorem sel_len {b : Bool} {l : List Int} {k : Nat} (h : l.length ≤ k) : (sel b l).length ≤ k := by
  cases b
  · exact Nat.zero_le _
  · exact h
theorem sel_mem {b : Bool} {l : List Int} {x : Int} (h : x ∈ sel b l) : x ∈ l := by
  cases b
  · cases h
  · exact h
theorem lcm_lt {i j : Int} {u v : Nat} (hi : 0 < i ∧ i < 2 ^ u) (hj : 0 < j ∧ j < 2 ^ v) : 0 < lcmI i j ∧ lcmI i j < 2 ^ (u + v) := by
  have h1 : Nat.lcm i.natAbs j.natAbs ≤ i.natAbs * j.natAbs := Nat.le_of_dvd (Nat.mul_pos (by omega) (by omega)) (Nat.lcm_dvd_mul _ _)
  have h2 : 0 < Nat.lcm i.natAbs j.natAbs := Nat.lcm_pos (by omega) (by omega)
  have e1 : ((i.natAbs : Nat) : Int) = i := by omega
  have e2 : ((j.natAbs : Nat) : Int) = j := by omega
  have a1 : i.natAbs < 2 ^ u := by
    have : ((i.natAbs : Nat) : Int) < ((2 ^ u : Nat) : Int) := by rw [e1, Int.natCast_pow]; exact hi.2
    exact Int.ofNat_lt.mp this
  have a2 : j.natAbs < 2 ^ v := by
    have : ((j.natAbs : Nat) : Int) < ((2 ^ v : Nat) : Int) := by rw [e2, Int.natCast_pow]; exact hj.2
    exact Int.ofNat_lt.mp this
  have a3 : Nat.lcm i.natAbs j.natAbs < 2 ^ (u + v) := by
    rw [Nat.pow_add]
    exact Nat.lt_of_le_of_lt h1 (Nat.mul_lt_mul_of_lt_of_lt a1 a2)
  unfold lcmI
  refine ⟨by omega, ?_⟩
  have := Int.ofNat_lt.mpr a3
  rw [Int.natCast_pow] at this
  exact this
theorem lcms_lt {a b : List Int} {u v : Nat} (ha : ∀ x ∈ a, 0 < x ∧ x < 2 ^ u) (hb : ∀ x ∈ b, 0 < x ∧ x < 2 ^ v) : ∀ x ∈ lcms a b, 0 < x ∧ x < 2 ^ (u + v) := fun x hx => by
  unfold lcms at hx
  obtain ⟨l, hl, hx⟩ := List.mem_flatten.mp hx
  obtain ⟨i, hi, rfl⟩ := List.mem_map.mp hl
  obtain ⟨j, hj, rfl⟩ := List.mem_map.mp hx
  exact lcm_lt (ha i hi) (hb j hj)
theorem lt_up {x : Int} {u v : Nat} (h : x < 2 ^ u) (huv : u ≤ v) : x < 2 ^ v := by
  have h1 : ((2 ^ u : Nat) : Int) ≤ ((2 ^ v : Nat) : Int) := Int.ofNat_le.mpr (Nat.pow_le_pow_right (by decide) huv)
  rw [Int.natCast_pow, Int.natCast_pow] at h1
  exact Int.lt_of_lt_of_le h h1
theorem odd_len (ns : List Int) : (oddI ns).length ≤ ns.length := by
  unfold oddI
  rw [(isortI_perm _).length_eq, List.length_map]
  have h := (odB_nodup_len ns ns.length).2
  rw [List.take_length] at h
  exact Nat.le_trans (List.length_filter_le _ _) h
section
variable {a b c L M : List Int} {φ ψ : Bf}
theorem slim_of {L : List Int} (h0 : ∀ x ∈ L, 0 < x) (h : ∀ x ∈ L, x < 2 ^ 900) : slim L = true := List.all_eq_true.mpr fun x hx => decide_eq_true (Nat.lt_trans (bits_lt (k := 900) (by have := h0 x hx; omega) (h x hx) (by decide)) (by decide))
theorem app_pos {l m : List Int} (h : ∀ x ∈ l, 0 < x) (g : ∀ x ∈ m, 0 < x) : ∀ x ∈ l ++ m, 0 < x := fun x hx => by
  rcases List.mem_append.mp hx with z | z
  · exact h x z
  · exact g x z
end
section
variable {base : Int} {a b : List Int}
theorem lcm_pos {x y : Int} (hx : 0 < x) (hy : 0 < y) : 0 < lcmI x y := by
  have h0 : 0 < Nat.lcm x.natAbs y.natAbs := Nat.lcm_pos (by omega) (by omega)
  unfold lcmI
  omega
theorem lcms_mem {z : Int} (h : z ∈ lcms a b) : ∃ x ∈ a, ∃ y ∈ b, z = lcmI x y := by
  unfold lcms at h
  obtain ⟨l, hl, hz⟩ := List.mem_flatten.mp h
  obtain ⟨x, hx, rfl⟩ := List.mem_map.mp hl
  obtain ⟨y, hy, rfl⟩ := List.mem_map.mp hz
  exact ⟨x, hx, y, hy, rfl⟩
end
theorem odd_id {a : List Int} (h : Fm a) : oddI a = a := fm_one (fm_odd h.pos) h fun n _ => pr_odd a n
def hd : List Int → D
  | [] => .non
  | x :: _ => .int x
def nums (n : Int) : List Int := (List.range n.toNat).map fun (k : Nat) => 1 + ((k : Nat) : Int)
theorem nums_mem {n x : Int} : x ∈ nums n ↔ 1 ≤ x ∧ x ≤ n := by
  unfold nums
  rw [List.mem_map]
  constructor
  · rintro ⟨k, hk, rfl⟩
    have := List.mem_range.mp hk
    omega
  · intro h
    exact ⟨(x - 1).toNat, List.mem_range.mpr (by omega), by omega⟩
theorem nums_asc (n : Int) : (nums n).Pairwise (· < ·) := by
  unfold nums
  refine List.Pairwise.map _ (fun a b h => ?_) List.pairwise_lt_range
  show (1 : Int) + a < 1 + b
  omega
theorem first_num {X : List Int} {base : Int} (h : Fm X) (hb : ∀ x ∈ X, x ≤ base) : hd ((nums base).filter (pr X)) = hd X := by
  have asc : ((nums base).filter (pr X)).Pairwise (· < ·) := (nums_asc base).sublist List.filter_sublist
  cases X with
  | nil =>
    have e : (nums base).filter (pr []) = [] := List.filter_eq_nil_iff.mpr fun x _ z => by cases z
    rw [e]
  | cons d r =>
    have hd0 := h.pos d List.mem_cons_self
    have hin : d ∈ (nums base).filter (pr (d :: r)) := List.mem_filter.mpr ⟨nums_mem.mpr ⟨by omega, hb d List.mem_cons_self⟩, pr_head h⟩
    cases e : (nums base).filter (pr (d :: r)) with
    | nil =>
      rw [e] at hin
      cases hin
    | cons y t =>
      rw [e] at hin asc
      have hy : y ∈ (nums base).filter (pr (d :: r)) := by
        rw [e]
        exact List.mem_cons_self
      obtain ⟨h1, h2⟩ := List.mem_filter.mp hy
      have y1 := (nums_mem.mp h1).1
      show D.int y = D.int d
      by_cases z : y < d
      · have : pr (d :: r) y = false := pr_big (by omega) fun x hx => by
          rcases List.mem_cons.mp hx with w | w
          · omega
          · have := (List.pairwise_cons.mp h.asc).1 x w
            omega
        rw [this] at h2
        cases h2
      · rcases List.mem_cons.mp hin with w | w
        · rw [w]
        · have := (List.pairwise_cons.mp asc).1 d w
          omega
theorem hd_nil {X Y : List Int} (h : hd X = hd Y) : (X = []) ↔ (Y = []) := by
  cases X with
  | nil =>
    cases Y with
    | nil => exact Iff.rfl
    | cons _ _ => cases h
  | cons _ _ =>
    cases Y with
    | nil => cases h
    | cons _ _ => exact ⟨fun z => (by cases z), fun z => (by cases z)⟩
theorem lcm_le {base x y : Int} (hb : 1 ≤ base) (hx : base % x = 0) (hy : base % y = 0) : lcmI x y ≤ base := by
  have d1 : x.natAbs ∣ base.natAbs := Int.natAbs_dvd_natAbs.mpr (Int.dvd_of_emod_eq_zero hx)
  have d2 : y.natAbs ∣ base.natAbs := Int.natAbs_dvd_natAbs.mpr (Int.dvd_of_emod_eq_zero hy)
  have d3 : Nat.lcm x.natAbs y.natAbs ∣ base.natAbs := Nat.lcm_dvd d1 d2
  have := Nat.le_of_dvd (by omega) d3
  unfold lcmI
  omega
end Dv

set_option maxRecDepth 100000
set_option maxHeartbeats 4000000
/-! Go: operators and built-ins on known data; the walk -/
namespace Dv
namespace Du
end Du
open Du
open PySem PySem.Spec PyProof.Rows L2
section
variable {kl : KL'} {ki : KI'} {k : KD} {x : KX} {s : S} {ce : List Cell} {i j : Int} {a b d : D} {n : Nat}
theorem Du.q_v {po : Po} (e : po = .v d) (h : k d s) : Gq po s kl k := by rw [e]; exact h
theorem Du.q_l {po : Po} {xs : List D} (e : po = .l xs) (h : kl xs s) : Gq po s kl k := by rw [e]; exact h
theorem Du.q_add (h : k (.int (i + j)) s) : Gq (pAdd ce (.int i) (.int j)) s kl k := h
theorem Du.q_sub (h : k (.int (i - j)) s) : Gq (pSub ce (.int i) (.int j)) s kl k := h
theorem Du.q_mul (hb : bits i + bits j < 900000) (h : k (.int (i * j)) s) : Gq (pMul ce (.int i) (.int j)) s kl k := q_v (mul_int ce hb) h
theorem Du.q_div (h0 : 0 < j) (hb : bits j < 9000) (h : k (.int (i / j)) s) : Gq (pDiv ce (.int i) (.int j)) s kl k := q_v (div_int ce h0 hb) h
theorem Du.q_mod (h0 : 0 < j) (h : k (.int (i % j)) s) : Gq (pMod ce (.int i) (.int j)) s kl k := q_v (mod_int ce h0) h
theorem Du.q_pow (hb : 0 ≤ j ∧ ((bits i : Int) + 1) * j ≤ 134217728) (h : k (.int (i ^ j.toNat)) s) : Gq (pPow ce (.int i) (.int j)) s kl k := by
  show Gq (if 0 ≤ j ∧ ((bits i : Int) + 1) * j ≤ 134217728 then Po.v (.int (i ^ j.toNat)) else .no) s kl k
  rw [if_pos hb]
  exact h
theorem Du.q_cmp {p : Int → Int → Bool} (h : k (.bl (p i j)) s) : Gq (pCmp p ce (.int i) (.int j)) s kl k := h
theorem Du.q_lt (h : k (.bl (decide (i < j))) s) : Gq (pLt ce (.int i) (.int j)) s kl k := h
theorem Du.q_le (h : k (.bl (decide (i ≤ j))) s) : Gq (pLe ce (.int i) (.int j)) s kl k := h
theorem Du.q_gt (h : k (.bl (decide (j < i))) s) : Gq (pGt ce (.int i) (.int j)) s kl k := h
theorem Du.q_ge (h : k (.bl (decide (j ≤ i))) s) : Gq (pGe ce (.int i) (.int j)) s kl k := h
theorem Du.q_eqI (h : k (.bl (decide (i = j))) s) : Gq (pEq ce (.int i) (.int j)) s kl k := h
theorem Du.q_neI (h : k (.bl (!decide (i = j))) s) : Gq (pNe ce (.int i) (.int j)) s kl k := h
theorem Du.q_eqL {u v : List Int} (h : k (.bl (decide (u = v))) s) : Gq (pEq ce (lI u) (lI v)) s kl k := q_v (eq_ints ce u v) h
theorem Du.q_neL {u v : List Int} (h : k (.bl (!decide (u = v))) s) : Gq (pNe ce (lI u) (lI v)) s kl k := by
  refine q_v (d := .bl (!decide (u = v))) ?_ h
  have e := eq_ints ce u v
  unfold pNe pEq at *
  generalize toPc ce (lI u) = p at *
  generalize toPc ce (lI v) = q at *
  unfold eqP at *
  split at e
  · split at e
    · rename_i hz
      rw [if_pos hz]
      have e2 := Po.v.inj e
      have e3 := D.bl.inj e2
      rw [if_neg (by decide)] at e3
      rw [e3] <;> rfl
    · cases e
  · cases e
theorem Du.q_neg (h : k (.int (-i)) s) : Gq (pNeg ce (.int i)) s kl k := h
theorem Du.q_addL {u v : List D} (hl : u.length + v.length ≤ 100000) (h : kl (u ++ v) s) : Gq (pAdd ce (.lst u) (.lst v)) s kl k := by
  show Gq (if u.length + v.length ≤ 100000 then Po.l (u ++ v) else .no) s kl k
  rw [if_pos hl]
  exact h
theorem Du.q_repL {u : List D} (hl : i ≤ 100000 ∧ u.length * i.toNat ≤ 100000 ∧ -100000 ≤ i) (h : kl (List.replicate i.toNat u).flatten s) : Gq (pRep ce (.lst u) (.int i)) s kl k := by
  show Gq (if i ≤ 100000 ∧ u.length * i.toNat ≤ 100000 ∧ -100000 ≤ i then Po.l (List.replicate i.toNat u).flatten else .no) s kl k
  rw [if_pos hl]
  exact h
theorem Du.q_fld {c0 : Nat} {f : Str} {fs : List (Str × D)} (e1 : instF c0 ce a = some fs) (e2 : fs.lookup f = some d) (h : k d s) : Gq (pFld c0 f ce a) s kl k := by
  unfold pFld
  rw [e1]
  show Gq (itemK (fs.lookup f)) s kl k
  rw [e2]
  exact h
/-! items -/
theorem Du.q_ix {xs : List D} (e : lookU ce a = some xs) (e2 : atI xs i = some d) (h : k d s) : Gq (pIx ce a (.int i)) s kl k := by
  have e3 : pIx ce a (.int i) = atL (lookU ce a) i := by
    cases a with
    | str z => cases e
    | _ => rfl
  rw [e3, e]
  show Gq (itemK (atI xs i)) s kl k
  rw [e2]
  exact h
/-! built-ins -/
theorem Du.q_len {xs : List D} (e : lookU ce a = some xs) (h : k (.int (xs.length : Nat)) s) : Gq (b1 lenD ce [a]) s kl k := by
  refine q_v ?_ h
  have gen : ∀ d : D, (∀ z, d ≠ .str z) → lenD ce d = (match lookU ce d with
      | some xs => Po.v (.int xs.length)
      | none => .no) := fun d hd => by
    cases d with
    | str z => exact absurd rfl (hd z)
    | _ => rfl
  show lenD ce a = _
  rw [gen a (fun z hz => by subst hz; cases e), e]
theorem Du.q_abs (h : k (.int (if i < 0 then -i else i)) s) : Gq (b1 absD ce [.int i]) s kl k := h
theorem Du.q_max (h : k (.int (if j > i then j else i)) s) : Gq (b2 maxD ce [.int i, .int j]) s kl k := h
theorem Du.q_min (h : k (.int (if j < i then j else i)) s) : Gq (b2 minD ce [.int i, .int j]) s kl k := h
theorem Du.q_intI (h : k (.int i) s) : Gq (b1 intD ce [.int i]) s kl k := h
theorem Du.q_intB {t : Bool} (h : k (.int (if t then 1 else 0)) s) : Gq (b1 intD ce [.bl t]) s kl k := h
theorem Du.q_list {xs : List D} (e : lookU ce a = some xs) (h : kl xs s) : Gq (b1 listD ce [a]) s kl k := by
  refine q_l (xs := xs) ?_ h
  show listD ce a = _
  unfold listD
  rw [e]
theorem Du.q_sorted {ns : List Int} (e : look ce a = some (ns.map .int)) (h : kl ((isortI ns).map .int) s) : Gq (b1 sortedD ce [a]) s kl k := by
  refine q_l (xs := (isortI ns).map .int) ?_ h
  show sortedD ce a = _
  unfold sortedD
  rw [e]
  show (match intsD (ns.map .int) with
    | some ns => Po.l ((isortI ns).map .int)
    | none => .no) = _
  rw [intsD_map]
theorem Du.q_all {bs : List Bool} (e : look ce a = some (bs.map .bl)) (h : k (.bl (bs.all id)) s) : Gq (b1 allD ce [a]) s kl k := by
  refine q_v (d := .bl (bs.all id)) ?_ h
  show allD ce a = _
  unfold allD
  rw [e]
  show (match blsD (bs.map .bl) with
    | some bs => Po.v (.bl (bs.all id))
    | none => .no) = _
  rw [blsD_map]
theorem Du.q_lcm (h1 : bits i < 6000) (h2 : bits j < 6000) (h : k (.int (lcmI i j)) s) : Gq (b2 lcmD ce [.int i, .int j]) s kl k := by
  show Gq (if bits i < 6000 ∧ bits j < 6000 then Po.v (.int (lcmI i j)) else .no) s kl k
  rw [if_pos ⟨h1, h2⟩]
  exact h
theorem Du.q_gcd (h : k (.int (gcdI i j)) s) : Gq (b2 gcdD ce [.int i, .int j]) s kl k := h
theorem Du.q_sum {ns : List Int} (e : look ce a = some (ns.map .int)) (h : k (.int ns.sum) s) : Gq (b1 sumD ce [a]) s kl k := by
  refine q_v (d := .int ns.sum) ?_ h
  show sumD ce a = _
  unfold sumD
  rw [e]
  show (match intsD (ns.map .int) with
    | some ns => Po.v (.int ns.sum)
    | none => .no) = _
  rw [intsD_map]
theorem Du.q_isN (h : k (.bl true) s) : Gq (pIs false ce .non .non) s kl k := h
theorem Du.q_isI (h : k (.bl false) s) : Gq (pIs false ce (.int i) .non) s kl k := h
theorem Du.q_isi {ok ans : TyT → Bool} {t : TyT} (e : tyD ce a = some t) (e2 : ok t = true) (h : k (.bl (ans t)) s) : Gq (isiD ok ans ce a) s kl k := by
  unfold isiD
  rw [e]
  show Gq (if ok t = true then Po.v (.bl (ans t)) else .no) s kl k
  rw [if_pos e2]
  exact h
theorem Du.q_repr {p : PyData} (hp : toP3 ce a = some p) (h : rpOk p) (q : k (.str p.shown) s) : Gq (b1 reprD ce [a]) s kl k := by
  refine q_v ?_ q
  show reprK (toP3 ce a) = _
  rw [hp]
  show (if rpOk p then Po.v (.str p.shown) else .no) = _
  rw [if_pos h]
theorem Du.q_eqS {z : Str} (hz : PyData.strOk z = true) (h : k (.bl true) s) : Gq (pEq ce (.str z) (.str z)) s kl k := q_v (eq_str ce hz) h
theorem Du.q_neS {z : Str} (hz : PyData.strOk z = true) (h : k (.bl false) s) : Gq (pNe ce (.str z) (.str z)) s kl k := q_v (ne_str ce hz) h
end
/-! what the walk asks of literal states -/
section
variable {k : KD} {x : KX} {sl sl' : List (Option D)} {ce ce' : List Cell} {n0 : Nat} {f g : DE} {ga : DA} {s : S} {i j : Nat} {nx bk ct : KS} {rt : R → Prop} {kl : KL'} {ki : KI'} {kA : KL'}
def Du.CeK (c : Cell) (s : S) (k : KD) : Prop := k (.rf s.ce.length) ⟨s.sl, s.ce ++ [c], s.n0⟩
theorem Du.cek {c : Cell} (h : k (.rf ce.length) ⟨sl, ce ++ [c], n0⟩) : CeK c ⟨sl, ce, n0⟩ k := h
theorem Du.g_ce (h : Gn f s (fun xs s => CeK (.lst xs) s k) (fun c fs s => CeK (.ins c fs) s k) k x) : Gn (dCe f) s kl ki k x := n_ce h
theorem Du.g_newD (h : CeK (.dic []) s k) : Gn dNewD s kl ki k x := h
/-- a cell is written -/
def Du.WrK (j : Nat) (c : Cell) (s : S) (nx : KS) : Prop := nx ⟨s.sl, s.ce.set j c, s.n0⟩
theorem Du.wrk {c : Cell} (h : nx ⟨sl, ce.set j c, n0⟩) : WrK j c ⟨sl, ce, n0⟩ nx := h
theorem Du.wrk' {c : Cell} (e : ce.set j c = ce') (h : nx ⟨sl, ce', n0⟩) : WrK j c ⟨sl, ce, n0⟩ nx := by
  show nx ⟨sl, ce.set j c, n0⟩
  rw [e]
  exact h
theorem Du.g_app {xs : List D} {d : D} (e : s.ce[j]? = some (.lst xs)) (hl : xs.length < 100000) (h : WrK j (.lst (xs ++ [d])) s (k .non)) : Gm (mApp s.ce (.rf j) [d]) s kl k := m_app e hl h
theorem Du.g_ext {xs ys : List D} (e : s.ce[j]? = some (.lst xs)) (hl : xs.length + ys.length ≤ 100000) (h : WrK j (.lst (xs ++ ys)) s (k .non)) : Gm (mExt s.ce (.rf j) [.lst ys]) s kl k := m_ext e hl h
theorem Du.g_setF {c0 : Nat} {nm : Str} {fo fv : DE} (h : Ge fv s (fun d s => Ge fo s (fun o s => ∃ j fs, o = .rf j ∧ s.ce[j]? = some (.ins c0 fs) ∧ fs.length < 900 ∧ WrK j (.ins c0 (putFD nm d fs)) s nx) x) x) : Gs (sSetF c0 nm fo fv) s nx bk ct rt x := s_setF' h
theorem Du.g_setI {fo fi fv : DE} (h : Ge fv s (fun d s => Ge fo s (fun o s => Ge fi s (fun ix s => ∃ j xs i n, o = .rf j ∧ ix = .int i ∧ s.ce[j]? = some (.lst xs) ∧ ixN xs.length i = some n ∧ WrK j (.lst (xs.set n d)) s nx) x) x) x) : Gs (sSetI fo fi fv) s nx bk ct rt x := s_setI' h
theorem Du.g_putD {fo fk fv : DE} (h : Ge fv s (fun d s => Ge fo s (fun o s => Ge fk s (fun y s => ∃ j kvs ky, o = .rf j ∧ s.ce[j]? = some (.dic kvs) ∧ keyD y = some ky ∧ kvs.length < 100000 ∧ WrK j (.dic (putKD kvs ky d)) s nx) x) x) x) : Gs (sPutD fo fk fv) s nx bk ct rt x := s_putD' h
theorem Du.br_not {p q : Prop} {t : Bool} (h : Br t q p) : Br (!t) p q := by cases t <;> exact h
theorem i_rng1 {n : Int} (hn : n.natAbs ≤ 1000000000000) (h : kA (rngD 0 n.toNat) s) : ∃ xs, rng1 [.int n] = some xs ∧ kA xs s := ⟨_, if_pos hn, h⟩
theorem i_rng2 {m n : Int} (hm : m.natAbs ≤ 1000000000000) (hn : n.natAbs ≤ 1000000000000) (h : kA (rngD m (n - m).toNat) s) : ∃ xs, rng2 [.int m, .int n] = some xs ∧ kA xs s := ⟨_, if_pos ⟨hm, hn⟩, h⟩
theorem i_zipK {us vs : List D} (hl : us.length = vs.length) (h : kA (pairs us vs) s) : ∃ xs, zipK [.lst us, .lst vs] = some xs ∧ kA xs s := ⟨_, if_pos hl, h⟩
theorem len_d {n m : Nat} {ds : List D} (e : ds.length = n) (h : n ≤ m) : ds.length ≤ m := by rw [e]; exact h
end
end Dv

set_option maxRecDepth 100000
set_option maxHeartbeats 4000000
namespace Dv
namespace Du
end Du
open Du
open PySem PySem.Spec PyProof.Rows L2
section
open Classical
/-- what __init__ by its function m leaves -/
noncomputable def mkOf (c0 : Nat) (m : Fn) : MkFn := fun ds ce =>
  if h : ∃ fs, m (.rf ce.length :: ds) (ce ++ [.ins c0 []]) = .ok .non (ce ++ [.ins c0 fs]) ∧ lowF ce.length fs = true then .ok h.choose
  else if h : ∃ x : Xc, x.fs = [] ∧ ∃ c, m (.rf ce.length :: ds) (ce ++ [.ins c0 []]) = .er x (ce ++ [c]) then .er h.choose
  else .no
theorem mkOf_ok (c0 : Nat) (m : Fn) : MkOk c0 m (mkOf c0 m) := fun ds ce => by
  unfold mkOf
  by_cases h : ∃ fs, m (.rf ce.length :: ds) (ce ++ [.ins c0 []]) = .ok .non (ce ++ [.ins c0 fs]) ∧ lowF ce.length fs = true
  · rw [dif_pos h]
    exact h.choose_spec
  · rw [dif_neg h]
    by_cases h2 : ∃ x : Xc, x.fs = [] ∧ ∃ c, m (.rf ce.length :: ds) (ce ++ [.ins c0 []]) = .er x (ce ++ [c])
    · rw [dif_pos h2]
      exact h2.choose_spec
    · rw [dif_neg h2]
      trivial
theorem mkOf_eq {c0 : Nat} {m : Fn} {ds : List D} {ce : List Cell} {fs : List (Str × D)} (e : m (.rf ce.length :: ds) (ce ++ [.ins c0 []]) = .ok .non (ce ++ [.ins c0 fs])) (hl : lowF ce.length fs = true) : mkOf c0 m ds ce = .ok fs := by
  have h : ∃ fs, m (.rf ce.length :: ds) (ce ++ [.ins c0 []]) = .ok .non (ce ++ [.ins c0 fs]) ∧ lowF ce.length fs = true := ⟨fs, e, hl⟩
  unfold mkOf
  rw [dif_pos h]
  have q := e.symm.trans h.choose_spec.1
  injection q with q1 q2
  have q3 := List.append_cancel_left q2
  injection q3 with q4 q5
  injection q4 with q6 q7
  rw [← q7]
theorem mkOf_er {c0 : Nat} {m : Fn} {ds : List D} {ce : List Cell} {x : Xc} {c : Cell} (hx : x.fs = []) (e : m (.rf ce.length :: ds) (ce ++ [.ins c0 []]) = .er x (ce ++ [c])) : mkOf c0 m ds ce = .er x := by
  have h0 : ¬ ∃ fs, m (.rf ce.length :: ds) (ce ++ [.ins c0 []]) = .ok .non (ce ++ [.ins c0 fs]) ∧ lowF ce.length fs = true := by
    rintro ⟨fs, q, _⟩
    rw [e] at q
    cases q
  have h : ∃ x : Xc, x.fs = [] ∧ ∃ c, m (.rf ce.length :: ds) (ce ++ [.ins c0 []]) = .er x (ce ++ [c]) := ⟨x, hx, c, e⟩
  unfold mkOf
  rw [dif_neg h0, dif_pos h]
  obtain ⟨q, c', q2⟩ := h.choose_spec
  have q2 := e.symm.trans q2
  injection q2 with q3 q4
  rw [← q3]
end
end Dv

set_option maxRecDepth 100000
set_option maxHeartbeats 4000000
namespace Dv
namespace Du
end Du
open Du
open PySem PySem.Spec PyProof.Rows L2
class PadN (ds : List D) (n : Nat) (sl : outParam (List (Option D))) : Prop where
  eq : ds.map some ++ List.replicate (n - ds.length) none = sl
  le : ds.length ≤ n
instance padN0 : PadN [] 0 [] := ⟨rfl, Nat.le_refl _⟩
instance padN1 {n : Nat} {sl : List (Option D)} [h : PadN [] n sl] : PadN [] (n + 1) (none :: sl) := ⟨by rw [← h.eq]; rfl, Nat.zero_le _⟩
instance padN2 {d : D} {ds : List D} {n : Nat} {sl : List (Option D)} [h : PadN ds n sl] : PadN (d :: ds) (n + 1) (some d :: sl) := ⟨by
  show some d :: (ds.map some ++ List.replicate (n + 1 - (ds.length + 1)) none) = _
  rw [Nat.add_sub_add_right, h.eq], Nat.succ_le_succ h.le⟩
theorem Du.run_lit {n : Nat} {b : DS} {ds : List D} {ce : List Cell} {sl : List (Option D)} {Q : FR → Prop} [h0 : PadN ds n sl] (h : Gs b ⟨sl, ce, ce.length⟩ (fun s => Ret ce Q (.ok .non s)) (fun _ => False) (fun _ => False) (Ret ce Q) (fun e s => Ret ce Q (.er e s))) : Q (Run n b ds ce) := by
  refine run_go h0.le ?_
  unfold initS
  rw [h0.eq]
  exact h
theorem Du.run_eq {n : Nat} {b : DS} {ds : List D} {ce : List Cell} {sl : List (Option D)} {r : FR} [h0 : PadN ds n sl] (h : Gs b ⟨sl, ce, ce.length⟩ (fun s => Ret ce (fun x => x = r) (.ok .non s)) (fun _ => False) (fun _ => False) (Ret ce fun x => x = r) (fun e s => Ret ce (fun x => x = r) (.er e s))) : Run n b ds ce = r := run_lit (Q := fun x => x = r) h
theorem Du.run_fs {n : Nat} {b : DS} {ds : List D} {ce : List Cell} {sl : List (Option D)} {P : (FR → Prop) → Prop} [h0 : PadN ds n sl] (h : ∀ Q, P Q → Gs b ⟨sl, ce, ce.length⟩ (fun s => Ret ce Q (.ok .non s)) (fun _ => False) (fun _ => False) (Ret ce Q) (fun e s => Ret ce Q (.er e s))) : Fs (Run n b ds ce) P := fun Q hQ => run_lit (h Q hQ)
@[simp] theorem low_int (n : Nat) (i : Int) : low n (.int i) = true := rfl
@[simp] theorem low_bl (n : Nat) (i : Bool) : low n (.bl i) = true := rfl
@[simp] theorem low_non (n : Nat) : low n .non = true := rfl
@[simp] theorem low_str (n : Nat) (i : Str) : low n (.str i) = true := rfl
@[simp] theorem low_lst (n : Nat) (i : List D) : low n (.lst i) = lowL n i := rfl
@[simp] theorem low_ro (n : Nat) (i : List D) : low n (.ro i) = lowL n i := rfl
@[simp] theorem low_tup (n : Nat) (i : List D) : low n (.tup i) = lowL n i := rfl
@[simp] theorem low_obj (n c : Nat) (i : List (Str × D)) : low n (.obj c i) = lowF n i := rfl
@[simp] theorem low_rf (n j : Nat) : low n (.rf j) = decide (j < n) := rfl
@[simp] theorem lowL_nil' (n : Nat) : lowL n [] = true := rfl
@[simp] theorem lowL_cons (n : Nat) (d : D) (ds : List D) : lowL n (d :: ds) = (low n d && lowL n ds) := rfl
@[simp] theorem lowF_nil (n : Nat) : lowF n [] = true := rfl
@[simp] theorem lowF_cons (n : Nat) (k : Str) (d : D) (ds : List (Str × D)) : lowF n ((k, d) :: ds) = (low n d && lowF n ds) := rfl
@[simp] theorem lowC_gone (n : Nat) : lowC n .gone = true := rfl
@[simp] theorem lowC_lst (n : Nat) (xs : List D) : lowC n (.lst xs) = lowL n xs := rfl
@[simp] theorem lowC_ins (n c : Nat) (xs : List (Str × D)) : lowC n (.ins c xs) = lowF n xs := rfl
@[simp] theorem lowC_dic (n : Nat) (xs : List (Key × D)) : lowC n (.dic xs) = lowK n xs := rfl
@[simp] theorem lowL_app (n : Nat) : ∀ xs ys : List D, lowL n (xs ++ ys) = (lowL n xs && lowL n ys)
  | [], ys => by simp
  | d :: xs, ys => by
    show (low n d && lowL n (xs ++ ys)) = _
    rw [lowL_app n xs ys]
    simp [Bool.and_assoc]
@[simp] theorem lowL_map {α : Type} (n : Nat) (f : α → D) (h : ∀ x, low n (f x) = true) : ∀ xs : List α, lowL n (xs.map f) = true
  | [] => rfl
  | x :: xs => by
    show (low n (f x) && lowL n (xs.map f)) = true
    rw [h, lowL_map n f h xs] <;> rfl
/-- the state taken apart -/
def Du.At (s : S) (P : List (Option D) → List Cell → Nat → Prop) : Prop := P s.sl s.ce s.n0
theorem Du.at_lit {sl : List (Option D)} {ce : List Cell} {n0 : Nat} {P : List (Option D) → List Cell → Nat → Prop} (h : P sl ce n0) : At ⟨sl, ce, n0⟩ P := h
class GetN (l : List (Option D)) (i : Nat) (d : outParam D) : Prop where
  eq : l[i]? = some (some d)
instance getN0 {d : D} {l : List (Option D)} : GetN (some d :: l) 0 d := ⟨rfl⟩
instance getN1 {a : Option D} {d : D} {l : List (Option D)} {i : Nat} [h : GetN l i d] : GetN (a :: l) (i + 1) d := ⟨by rw [← h.eq]; rfl⟩
section
variable {kl : KL'} {ki : KI'} {k : KD} {x : KX} {s : S} {f g : DE} {ga : DA} {tb tc : DB} {d a b : D} {i j n : Nat} {p : List Cell → D → Po} {p2 : List Cell → D → D → Po} {kA : KL'} {kB : Bool → S → Prop} {m : Fn} {c0 : Nat} {sl : List (Option D)} {ce : List Cell} {n0 : Nat} {nx bk ct : KS} {rt : R → Prop}
theorem Du.g_var [h0 : GetN sl i d] (h : k d ⟨sl, ce, n0⟩) : Gn (dVar i) ⟨sl, ce, n0⟩ kl ki k x := n_var h0.eq h
theorem Du.g_op' (h : Ge f s (fun a s => Ge g s (fun b s => At s fun sl ce n0 => Gq (p2 ce a b) ⟨sl, ce, n0⟩ kl k) x) x) : Gn (dOp p2 f g) s kl ki k x := n_op h
theorem Du.g_un (h : Ge f s (fun a s => At s fun sl ce n0 => Gq (p ce a) ⟨sl, ce, n0⟩ kl k) x) : Gn (dUn p f) s kl ki k x := n_un h
theorem Du.g_bi {pb : List Cell → List D → Po} (h : Ga ga s (fun ds s => At s fun sl ce n0 => Gq (pb ce ds) ⟨sl, ce, n0⟩ kl k) x) : Gn (dBi pb ga) s kl ki k x := n_bi h
theorem Du.g_tru (h : Ge f s (fun d s => At s fun sl ce n0 => ∃ b, truD ce d = some b ∧ kB b ⟨sl, ce, n0⟩) x) : Gb (bTru f) s kB x := b_tru h
theorem Du.g_slice {l u : DP} (h : Ge f s (fun d s => Gp l s (fun lo s => Gp u s (fun hi s => At s fun sl ce n0 => ∃ xs, look ce d = some xs ∧ kl (cutD xs lo hi) ⟨sl, ce, n0⟩) x) x) x) : Gn (dSlice f l u) s kl ki k x := n_slice h
theorem Du.g_call1 (h : Ga ga s (fun ds s => At s fun sl ce n0 => ds.length = n ∧ Gf (m ds ce) ⟨sl, ce, n0⟩ kl ki k x) x) : Gn (dCall n m ga) s kl ki k x := n_call h
theorem Du.g_own1 (h : Ge f s (fun d s => At s fun sl ce n0 => ∃ fs, instF c0 ce d = some fs ∧ n = 1 ∧ Gf (m [d] ce) ⟨sl, ce, n0⟩ kl ki k x) x) : Gn (dOwn1 c0 n m f) s kl ki k x := n_own1 h
theorem Du.g_eqO (h : Ge f s (fun d s => Ge g s (fun w s => At s fun sl ce n0 => ∃ fs fs', instF c0 ce d = some fs ∧ instF c0 ce w = some fs' ∧ n = 2 ∧ Gf (m [d, w] ce) ⟨sl, ce, n0⟩ kl ki k x) x) x) : Gn (dEqO c0 n m f g) s kl ki k x := n_eqO h
theorem Du.g_prop (h : Ge f s (fun d s => At s fun sl ce n0 => ∃ fs, instF c0 ce d = some fs ∧ n = 1 ∧ Gf (m [d] ce) ⟨sl, ce, n0⟩ kl ki k (fun _ _ => False)) x) : Gn (dProp c0 n m f) s kl ki k x := n_prop h
theorem Du.g_meth {nm : Str} (h : Ge f s (fun d s => At s fun sl ce n0 => ∃ fs, instF c0 ce d = some fs ∧ (fs.lookup nm).isNone = true ∧ Ga ga ⟨sl, ce, n0⟩ (fun ds s => At s fun sl ce n0 => ds.length + 1 = n ∧ Gf (m (d :: ds) ce) ⟨sl, ce, n0⟩ kl ki k x) x) x) : Gn (dMeth c0 n nm m f ga) s kl ki k x := n_meth h
theorem Du.g_callO (h : Ge f s (fun d s => At s fun sl ce n0 => (instF c0 ce d).isSome = true ∧ Ga ga ⟨sl, ce, n0⟩ (fun ds s => At s fun sl ce n0 => ∃ fs, instF c0 ce d = some fs ∧ ds.length + 1 = n ∧ Gf (m (d :: ds) ce) ⟨sl, ce, n0⟩ kl ki k x) x) x) : Gn (dCallO c0 n m f ga) s kl ki k x := n_callO h
def Du.MkK (c0 : Nat) (r : FI) (s : S) (ki : KI') (x : KX) : Prop := Gr (fiK c0 s r) (fun _ _ => False) ki (fun _ _ => False) x
theorem Du.g_make {mk : MkFn} (h : Ga ga s (fun ds s => At s fun sl ce n0 => ds.length + 1 = n ∧ MkK c0 (mk ds ce) ⟨sl, ce, n0⟩ ki x) x) : Gn (dMake c0 n mk ga) s kl ki k x := n_make (GrA.m1 h fun ds s ⟨h1, h2⟩ => ⟨h1, Gr.mono h2 (fun _ _ h => h.elim) (fun _ _ h => h.elim) fun _ _ _ h => h⟩)
theorem Du.mkk {r : FI} {fs : List (Str × D)} (e : r = .ok fs) (h : ki c0 fs ⟨sl, ce, n0⟩) : MkK c0 r ⟨sl, ce, n0⟩ ki x := gr_mk e h
theorem Du.mkk_er {r : FI} {e : Xc} (q : r = .er e) (h : x e ⟨sl, ce, n0⟩) : MkK c0 r ⟨sl, ce, n0⟩ ki x := gr_mk_er q h
theorem Du.g_callK {nk : Nat} {ix : List Nat} (h : Ga ga s (fun ds s => At s fun sl ce n0 => ds.length = nk ∧ (pick ix ds).length = n ∧ Gf (m (pick ix ds) ce) ⟨sl, ce, n0⟩ kl ki k x) x) : Gn (dCallK n nk m ix ga) s kl ki k x := n_callK h
theorem Du.g_methK {nk : Nat} {nm : Str} {ix : List Nat} (h : Ge f s (fun d s => At s fun sl ce n0 => ∃ fs, instF c0 ce d = some fs ∧ (fs.lookup nm).isNone = true ∧ Ga ga ⟨sl, ce, n0⟩ (fun ds s => At s fun sl ce n0 => ds.length = nk ∧ (pick ix (d :: ds)).length = n ∧ Gf (m (pick ix (d :: ds)) ce) ⟨sl, ce, n0⟩ kl ki k x) x) x) :
    Gn (dMethK c0 n nk nm m ix f ga) s kl ki k x := n_methK h
theorem Du.g_inO (h : Ge f s (fun d s => Ge g s (fun w s => At s fun sl ce n0 => ∃ fs, instF c0 ce w = some fs ∧ Gf (m [w, d] ce) ⟨sl, ce, n0⟩ noL noI (fun r s => ∃ t, r = .bl t ∧ k (.bl t) s) x) x) x) : Gn (dInO c0 m f g) s kl ki k x := n_inO h
theorem Du.g_notInO (h : Ge f s (fun d s => Ge g s (fun w s => At s fun sl ce n0 => ∃ fs, instF c0 ce w = some fs ∧ Gf (m [w, d] ce) ⟨sl, ce, n0⟩ noL noI (fun r s => ∃ t, r = .bl t ∧ k (.bl !t) s) x) x) x) : Gn (dNotInO c0 m f g) s kl ki k x := n_notInO h
theorem Du.g_lenO (h : Ge f s (fun d s => At s fun sl ce n0 => ∃ fs, instF c0 ce d = some fs ∧ Gf (m [d] ce) ⟨sl, ce, n0⟩ noL noI (fun r s => ∃ i, r = .int i ∧ 0 ≤ i ∧ i < 1000000 ∧ k (.int i) s) x) x) : Gn (dLenO c0 m f) s kl ki k x := n_lenO h
theorem Du.g_mt {lk : List Cell → D → Bool} {mm : List Cell → D → List D → Mo} (h : Ge f s (fun d s => At s fun sl ce n0 => lk ce d = true ∧ Ga ga ⟨sl, ce, n0⟩ (fun ds s => At s fun sl ce n0 => Gm (mm ce d ds) ⟨sl, ce, n0⟩ kl k) x) x) : Gn (dMt lk mm f ga) s kl ki k x := n_mt h
theorem Du.g_app' {xs : List D} {d : D} (e : ce[j]? = some (.lst xs)) (hl : xs.length < 100000) (h : WrK j (.lst (xs ++ [d])) ⟨sl, ce, n0⟩ (k .non)) : Gm (mApp ce (.rf j) [d]) ⟨sl, ce, n0⟩ kl k := m_app e hl h
theorem Du.g_ext' {xs ys : List D} (e : ce[j]? = some (.lst xs)) (hl : xs.length + ys.length ≤ 100000) (h : WrK j (.lst (xs ++ ys)) ⟨sl, ce, n0⟩ (k .non)) : Gm (mExt ce (.rf j) [.lst ys]) ⟨sl, ce, n0⟩ kl k := m_ext e hl h
def Du.GetK (o y z : D) (s : S) (k : KD) : Prop := Gr (getK s z o y) (fun _ _ => False) (fun _ _ _ => False) k (fun _ _ => False)
theorem Du.g_getD {fo fk fx : DE} (h : Ge fo s (fun o s => At s fun sl ce n0 => isDic ce o = true ∧ Ge fk ⟨sl, ce, n0⟩ (fun y s => Ge fx s (fun z s => GetK o y z s k) x) x) x) : Gn (dGetD fo fk fx) s kl ki k x := n_getD (Gr.m1 h fun o s ⟨e, h⟩ => ⟨e, Gr.m1 h fun y s h => Gr.m1 h fun z s h => by
  have h' : Gr (getK s z o y) (fun _ _ => False) (fun _ _ _ => False) k (fun _ _ => False) := h
  generalize getK s z o y = r at *
  cases r with
  | ok d s => exact h'
  | _ => exact h'.elim⟩)
theorem Du.getk {kvs : List (Key × D)} {y z : D} {ky : Key} (e : ce[j]? = some (.dic kvs)) (ek : keyD y = some ky) (h : k ((valKD kvs ky).getD z) ⟨sl, ce, n0⟩) : GetK (.rf j) y z ⟨sl, ce, n0⟩ k := gr_get e ek h
def Du.SubK (o y : D) (s : S) (k : KD) : Prop := Gr (subK s o y) (fun _ _ => False) (fun _ _ _ => False) k (fun _ _ => False)
theorem Du.g_subD {fo fk : DE} (h : Ge fo s (fun o s => Ge fk s (fun y s => SubK o y s k) x) x) : Gn (dSubD fo fk) s kl ki k x := n_subD (Gr.m1 h fun o s h => Gr.m1 h fun y s h => by
  have h' : Gr (subK s o y) (fun _ _ => False) (fun _ _ _ => False) k (fun _ _ => False) := h
  generalize subK s o y = r at *
  cases r with
  | ok d s => exact h'
  | _ => exact h'.elim)
theorem Du.subk {kvs : List (Key × D)} {y : D} {ky : Key} {z : D} (e : ce[j]? = some (.dic kvs)) (ek : keyD y = some ky) (ev : valKD kvs ky = some z) (h : k z ⟨sl, ce, n0⟩) : SubK (.rf j) y ⟨sl, ce, n0⟩ k := gr_sub e ek ev h
theorem Du.g_sortSet (h : Ge f s (fun d s => At s fun sl ce n0 => ∃ ns : List Int, look ce d = some (ns.map .int) ∧ ns.length < 64 ∧ kl ((sset ns).map .int) ⟨sl, ce, n0⟩) x) : Gn (dSortSet f) s kl ki k x := n_sortSet h
theorem Du.g_setF' {c0 : Nat} {nm : Str} {fo fv : DE} (h : Ge fv s (fun d s => Ge fo s (fun o s => At s fun sl ce n0 => ∃ j fs, o = .rf j ∧ ce[j]? = some (.ins c0 fs) ∧ fs.length < 900 ∧ WrK j (.ins c0 (putFD nm d fs)) ⟨sl, ce, n0⟩ nx) x) x) : Gs (sSetF c0 nm fo fv) s nx bk ct rt x := g_setF h
theorem Du.g_setI' {fo fi fv : DE} (h : Ge fv s (fun d s => Ge fo s (fun o s => Ge fi s (fun ix s => At s fun sl ce n0 => ∃ j xs i n, o = .rf j ∧ ix = .int i ∧ ce[j]? = some (.lst xs) ∧ ixN xs.length i = some n ∧ WrK j (.lst (xs.set n d)) ⟨sl, ce, n0⟩ nx) x) x) x) : Gs (sSetI fo fi fv) s nx bk ct rt x := g_setI h
theorem Du.g_putD' {fo fk fv : DE} (h : Ge fv s (fun d s => Ge fo s (fun o s => Ge fk s (fun y s => At s fun sl ce n0 => ∃ j kvs ky, o = .rf j ∧ ce[j]? = some (.dic kvs) ∧ keyD y = some ky ∧ kvs.length < 100000 ∧ WrK j (.dic (putKD kvs ky d)) ⟨sl, ce, n0⟩ nx) x) x) x) : Gs (sPutD fo fk fv) s nx bk ct rt x := g_putD h
theorem Du.g_aug' {kk : Int → Int → Int} {u : Int} [h0 : GetN sl i (.int u)] (h : Ge f ⟨sl, ce, n0⟩ (fun d s => ∃ v, d = .int v ∧ SetK i (.int (kk u v)) s nx) x) : Gs (sAug i kk f) ⟨sl, ce, n0⟩ nx bk ct rt x := g_aug h0.eq h
end
theorem Du.q_isi' {kl : KL'} {k : KD} {s : S} {ce : List Cell} {a : D} {ok ans : TyT → Bool} {t : TyT} {v : Bool} (e : tyD ce a = some t) (e2 : ok t = true) (e3 : ans t = v) (h : k (.bl v) s) : Gq (isiD ok ans ce a) s kl k := q_isi e e2 (by rw [e3]; exact h)
/-! what a step leaves to be said -/
section
variable {kl : KL'} {ki : KI'} {k : KD} {x : KX} {s : S} {f g : DE} {ga : DA} {d a b c : D} {i j n : Nat} {m : Fn} {c0 : Nat} {sl : List (Option D)} {ce : List Cell} {n0 : Nat} {nx bk ct : KS} {rt : R → Prop} {p : Prop} {ds xs : List D} {fs fs' : List (Str × D)}
theorem x_bl {t : Bool} {P : Bool → Prop} (h : P t) : ∃ b, D.bl t = .bl b ∧ P b := ⟨t, rfl, h⟩
theorem x_int {t : Int} {P : Int → Prop} (h : P t) : ∃ b, D.int t = .int b ∧ P b := ⟨t, rfl, h⟩
theorem x_int2 {t u : Int} {P : Int → Int → Prop} (h : P t u) : ∃ a b, D.int t = .int a ∧ D.int u = .int b ∧ P a b := ⟨t, u, rfl, rfl, h⟩
theorem x_ls2 {P : D → D → Prop} (h : P a b) : ∃ a' b', [a, b] = [a', b'] ∧ P a' b' := ⟨a, b, rfl, h⟩
theorem x_ls3 {P : D → D → D → Prop} (h : P a b c) : ∃ a' b' c', [a, b, c] = [a', b', c'] ∧ P a' b' c' := ⟨a, b, c, rfl, h⟩
theorem x_lst {P : List D → Prop} (h : P xs) : ∃ ys, (D.lst xs = .lst ys ∨ D.lst xs = .ro ys) ∧ P ys := ⟨xs, .inl rfl, h⟩
theorem x_ro {P : List D → Prop} (h : P xs) : ∃ ys, (D.ro xs = .lst ys ∨ D.ro xs = .ro ys) ∧ P ys := ⟨xs, .inr rfl, h⟩
theorem x_tup {P : List D → Prop} (h : P xs) : ∃ ys, D.tup xs = .tup ys ∧ P ys := ⟨xs, rfl, h⟩
theorem x_lookL {P : List D → Prop} (h : P xs) : ∃ ys, look ce (.lst xs) = some ys ∧ P ys := ⟨xs, rfl, h⟩
theorem x_lookR {P : List D → Prop} (h : P xs) : ∃ ys, look ce (.ro xs) = some ys ∧ P ys := ⟨xs, rfl, h⟩
theorem x_lookC {P : List D → Prop} (e : ce[j]? = some (.lst xs)) (h : P xs) : ∃ ys, look ce (.rf j) = some ys ∧ P ys := ⟨xs, by show cellL ce[j]? = _; rw [e] <;> rfl, h⟩
theorem x_obj {P : List (Str × D) → Prop} (h : P fs) : ∃ gs, instF c0 ce (.obj c0 fs) = some gs ∧ P gs := ⟨fs, by show (if c0 = c0 then some fs else none) = _; rw [if_pos rfl], h⟩
theorem x_ins {P : List (Str × D) → Prop} (e : ce[j]? = some (.ins c0 fs)) (h : P fs) : ∃ gs, instF c0 ce (.rf j) = some gs ∧ P gs := ⟨fs, by
  show (match ce[j]? with
    | some (.ins c fs) => if c = c0 then some fs else none
    | _ => none) = _
  rw [e]
  show (if c0 = c0 then some fs else none) = _
  rw [if_pos rfl], h⟩
theorem x_obj2 {P : List (Str × D) → List (Str × D) → Prop} (h : P fs fs') : ∃ gs gs', instF c0 ce (.obj c0 fs) = some gs ∧ instF c0 ce (.obj c0 fs') = some gs' ∧ P gs gs' := by
  obtain ⟨g1, e1, h1⟩ := x_obj (c0 := c0) (ce := ce) (fs := fs) (P := fun g => g = fs) rfl
  obtain ⟨g2, e2, h2⟩ := x_obj (c0 := c0) (ce := ce) (fs := fs') (P := fun g => g = fs') rfl
  exact ⟨g1, g2, e1, e2, by rw [h1, h2]; exact h⟩
theorem x_obj2' {P : Prop} (h : P) : ∃ gs gs', instF c0 ce (.obj c0 fs) = some gs ∧ instF c0 ce (.obj c0 fs') = some gs' ∧ P := x_obj2 (P := fun _ _ => P) h
theorem x_obj' {P : Prop} (h : P) : ∃ gs, instF c0 ce (.obj c0 fs) = some gs ∧ P := x_obj (P := fun _ => P) h
theorem x_isS (h : p) : (instF c0 ce (.obj c0 fs)).isSome = true ∧ p := ⟨by show (if c0 = c0 then some fs else none).isSome = true; rw [if_pos rfl] <;> rfl, h⟩
theorem x_isSC (e : ce[j]? = some (.ins c0 fs)) (h : p) : (instF c0 ce (.rf j)).isSome = true ∧ p := by
  obtain ⟨g, e, _⟩ := x_ins (P := fun _ => True) e trivial
  rw [e]
  exact ⟨rfl, h⟩
theorem x_len (e : ds.length = n) (h : p) : ds.length = n ∧ p := ⟨e, h⟩
theorem x_len1 (e : ds.length + 1 = n) (h : p) : ds.length + 1 = n ∧ p := ⟨e, h⟩
theorem x_le (e : ds.length ≤ n) (h : p) : ds.length ≤ n ∧ p := ⟨e, h⟩
theorem x_n (h : p) : n = n ∧ p := ⟨rfl, h⟩
theorem x_lk {nm : Str} (e : (fs.lookup nm).isNone = true) (h : p) : (fs.lookup nm).isNone = true ∧ p := ⟨e, h⟩
theorem x_lkm {lk : List Cell → D → Bool} (e : lk ce d = true) (h : p) : lk ce d = true ∧ p := ⟨e, h⟩
theorem isL_rf (e : ce[j]? = some (.lst xs)) : isL ce (.rf j) = true := by
  show (cellL ce[j]?).isSome = true
  rw [e] <;> rfl
theorem x_dic {kvs : List (Key × D)} (e : ce[j]? = some (.dic kvs)) (h : p) : isDic ce (.rf j) = true ∧ p := ⟨by
  show (cellD ce[j]?).isSome = true
  rw [e] <;> rfl, h⟩
theorem x_set {P : Nat → List (Str × D) → Prop} (e : ce[j]? = some (.ins c0 fs)) (h : P j fs) : ∃ j' fs', D.rf j = .rf j' ∧ ce[j']? = some (.ins c0 fs') ∧ P j' fs' := ⟨j, fs, rfl, e, h⟩
theorem x_setI {P : Nat → List D → Int → Nat → Prop} {i : Int} {n : Nat} (e : ce[j]? = some (.lst xs)) (e2 : ixN xs.length i = some n) (h : P j xs i n) : ∃ j' xs' i' n', D.rf j = .rf j' ∧ D.int i = .int i' ∧ ce[j']? = some (.lst xs') ∧ ixN xs'.length i' = some n' ∧ P j' xs' i' n' := ⟨j, xs, i, n, rfl, rfl, e, e2, h⟩
theorem x_put {P : Nat → List (Key × D) → Key → Prop} {kvs : List (Key × D)} {ky : Key} (e : ce[j]? = some (.dic kvs)) (e2 : keyD d = some ky) (h : P j kvs ky) : ∃ j' kvs' ky', D.rf j = .rf j' ∧ ce[j']? = some (.dic kvs') ∧ keyD d = some ky' ∧ P j' kvs' ky' := ⟨j, kvs, ky, rfl, e, e2, h⟩
theorem x_lt (e : i < n) (h : p) : i < n ∧ p := ⟨e, h⟩
theorem x_leI {u v : Int} (e : u ≤ v) (h : p) : u ≤ v ∧ p := ⟨e, h⟩
theorem x_ltI {u v : Int} (e : u < v) (h : p) : u < v ∧ p := ⟨e, h⟩
theorem x_ints {ns : List Int} {P : List Int → Prop} (h : P ns) : ∃ ms : List Int, look ce (lI ns) = some (ms.map .int) ∧ P ms := ⟨ns, rfl, h⟩
theorem x_intsC {ns : List Int} {P : List Int → Prop} (e : ce[j]? = some (.lst (ns.map .int))) (h : P ns) : ∃ ms : List Int, look ce (.rf j) = some (ms.map .int) ∧ P ms := ⟨ns, by show cellL ce[j]? = _; rw [e] <;> rfl, h⟩
class PickN (ix : List Nat) (ds : List D) (l : outParam (List D)) : Prop where
  eq : pick ix ds = l
class GetL (l : List D) (i : Nat) (d : outParam D) : Prop where
  eq : l[i]? = some d
instance getL0 {d : D} {l : List D} : GetL (d :: l) 0 d := ⟨rfl⟩
instance getL1 {a d : D} {l : List D} {i : Nat} [h : GetL l i d] : GetL (a :: l) (i + 1) d := ⟨by rw [← h.eq]; rfl⟩
instance pickN0 {ds : List D} : PickN [] ds [] := ⟨rfl⟩
instance pickN1 {ds l : List D} {d : D} {i : Nat} {ix : List Nat} [h1 : GetL ds i d] [h2 : PickN ix ds l] : PickN (i :: ix) ds (d :: l) := ⟨by
  have e : pick (i :: ix) ds = d :: pick ix ds := by
    unfold pick
    rw [List.filterMap_cons, h1.eq]
  rw [e, h2.eq]⟩
def Du.PikK (n nk : Nat) (m : Fn) (ix : List Nat) (ds : List D) (s : S) (kl : KL') (ki : KI') (k : KD) (x : KX) (l0 : Nat) : Prop := l0 = nk ∧ (pick ix ds).length = n ∧ Gf (m (pick ix ds) s.ce) s kl ki k x
theorem Du.pikk {nk l0 : Nat} {ix : List Nat} {l : List D} [h0 : PickN ix ds l] (e : l0 = nk) (e2 : l.length = n) (h : Gf (m l ce) ⟨sl, ce, n0⟩ kl ki k x) : PikK n nk m ix ds ⟨sl, ce, n0⟩ kl ki k x l0 := by
  unfold PikK
  rw [h0.eq]
  exact ⟨e, e2, h⟩
theorem Du.g_callK' {nk : Nat} {ix : List Nat} (h : Ga ga s (fun ds s => PikK n nk m ix ds s kl ki k x ds.length) x) : Gn (dCallK n nk m ix ga) s kl ki k x := n_callK h
theorem Du.g_methK' {nk : Nat} {nm : Str} {ix : List Nat} (h : Ge f s (fun d s => At s fun sl ce n0 => ∃ fs, instF c0 ce d = some fs ∧ (fs.lookup nm).isNone = true ∧ Ga ga ⟨sl, ce, n0⟩ (fun ds s => PikK n nk m ix (d :: ds) s kl ki k x ds.length) x) x) :
    Gn (dMethK c0 n nk nm m ix f ga) s kl ki k x := n_methK h
/-- a loop, to be told by its invariant -/
def Du.ForK (t : DT) (body : DS) (xs : List D) (s : S) (nx : KS) (rt : R → Prop) (x : KX) : Prop := ∃ I : Nat → S → Prop, I 0 s ∧ (∀ j d s, xs[j]? = some d → I j s → TgK t d s fun s => Gs body s (I (j + 1)) nx (I (j + 1)) rt x) ∧ ∀ s, I xs.length s → nx s
theorem Du.g_for' {it : DI} {t : DT} {body : DS} (h : Gi it s (fun xs s => ForK t body xs s nx rt x) x) : Gs (sFor it t body) s nx bk ct rt x := g_for h
theorem Du.for_inv {t : DT} {body : DS} (I : Nat → S → Prop) (h0 : I 0 s) (hs : ∀ j d s, xs[j]? = some d → I j s → TgK t d s fun s => Gs body s (I (j + 1)) nx (I (j + 1)) rt x) (hd : ∀ s, I xs.length s → nx s) : ForK t body xs s nx rt x := ⟨I, h0, hs, hd⟩
theorem i_enum {P : List D → Prop} (h : P (enumD 0 xs)) : ∃ ys, enumK [.lst xs] = some ys ∧ P ys := ⟨_, rfl, h⟩
theorem i_zipU {us vs : List D} {P : List D → Prop} (h : P (pairs us vs)) : ∃ xs, zipU [.lst us, .lst vs] = some xs ∧ P xs := ⟨_, rfl, h⟩
theorem i_zipK' {us vs : List D} {P : List D → Prop} (hl : us.length = vs.length) (h : P (pairs us vs)) : ∃ xs, zipK [.lst us, .lst vs] = some xs ∧ P xs := ⟨_, if_pos hl, h⟩
theorem i_rng1' {n : Int} {P : List D → Prop} (hn : n.natAbs ≤ 1000000000000) (h : P (rngD 0 n.toNat)) : ∃ xs, rng1 [.int n] = some xs ∧ P xs := ⟨_, if_pos hn, h⟩
theorem i_rng2' {m n : Int} {P : List D → Prop} (hm : m.natAbs ≤ 1000000000000) (hn : n.natAbs ≤ 1000000000000) (h : P (rngD m (n - m).toNat)) : ∃ xs, rng2 [.int m, .int n] = some xs ∧ P xs := ⟨_, if_pos ⟨hm, hn⟩, h⟩
end
/-! cells: what stands where -/
section
variable {ce ce' own : List Cell} {j i : Nat} {c c' d : Cell}
theorem ce_app (h : ce[j]? = some c) : (ce ++ own)[j]? = some c := by
  rw [List.getElem?_append_left (List.getElem?_eq_some_iff.mp h).1]
  exact h
theorem ce_one : (ce ++ [c])[ce.length]? = some c := by simp
theorem ce_one' (h : ce'.length = ce.length) : (ce' ++ [c])[ce.length]? = some c := by rw [← h]; simp
theorem ce_two : (ce ++ [c, d])[ce.length + 1]? = some d := by simp
theorem ce_set (h : j < ce.length) : (ce.set j c)[j]? = some c := by rw [List.getElem?_set_self h]
theorem ce_ne (h : j ≠ i) (q : ce[i]? = some d) : (ce.set j c)[i]? = some d := by rw [List.getElem?_set_ne h]; exact q
theorem ce_lt (h : ce[j]? = some c) : j < ce.length := (List.getElem?_eq_some_iff.mp h).1
theorem set_app (h : j < ce.length) : (ce ++ own).set j c = ce.set j c ++ own := by
  rw [List.set_append_left _ _ h]
theorem set_one : (ce ++ [d]).set ce.length c = ce ++ [c] := by simp
theorem set_one' (h : ce'.length = ce.length) : (ce' ++ [d]).set ce.length c = ce' ++ [c] := by rw [← h]; simp
theorem set_set2 : (ce.set j c).set j d = ce.set j d := by simp
theorem len_set : (ce.set j c).length = ce.length := by simp
end
end Dv

set_option maxRecDepth 100000
set_option maxHeartbeats 4000000
/-! Go: comprehensions -/
namespace Dv
namespace Du
end Du
open Du
open PySem PySem.Spec PyProof.Rows L2
abbrev FX : KX := fun _ _ => False
section
variable {kl : KL'} {ki : KI'} {k : KD} {x : KX} {s : S} {f g : DE} {ga : DA} {d a b : D} {i j n : Nat} {sl sl' : List (Option D)} {ce : List Cell} {n0 : Nat} {t : DT} {vs : List Nat} {c : DB} {xs : List D} {ns : List Int}
theorem Du.g_compV [h0 : GetN sl i (.lst xs)] (h : CompK t vs c f xs ⟨sl, ce, n0⟩ kl) : Gn (dCompV i t vs c f) ⟨sl, ce, n0⟩ kl ki k x := n_compV h0.eq rfl h
theorem Du.g_compVr [h0 : GetN sl i (.ro xs)] (h : CompK t vs c f xs ⟨sl, ce, n0⟩ kl) : Gn (dCompV i t vs c f) ⟨sl, ce, n0⟩ kl ki k x := n_compV h0.eq rfl h
theorem Du.TgK.m {t : DT} {d : D} {s : S} {nx nx' : KS} (h : TgK t d s nx) (m : ∀ s, nx s → nx' s) : TgK t d s nx' := by
  obtain ⟨s', e, h⟩ := h
  exact ⟨s', e, m s' h⟩
/-- over ints, a test and an element, the cells stay -/
theorem Du.comp_ints (p : Int → Bool) (g : Int → D) [hw : WipN sl vs sl'] (hl : ns.length ≤ 100000)
    (h : ∀ n ∈ ns, TgK t (.int n) ⟨sl', ce, ce.length⟩ fun s1 => Gb c s1 (fun b s2 => b = p n ∧ (p n = true → Ge f s2 (fun v s3 => v = g n ∧ s3.ce = ce) FX) ∧ (p n = false → s2.ce = ce)) FX)
    (hd : kl ((ns.filter p).map g) ⟨sl, ce, n0⟩) : CompK t vs c f (ns.map .int) ⟨sl, ce, n0⟩ kl := by
  let pD : D → Bool := fun d => match d with
    | .int n => p n
    | _ => false
  let gD : D → D := fun d => match d with
    | .int n => g n
    | _ => .non
  refine comp_pure pD gD (by rw [List.length_map]; exact hl) (fun d hd => ?_) ?_
  · obtain ⟨n, hn, rfl⟩ := List.mem_map.mp hd
    rw [hw.eq]
    exact h n hn
  · have e : ((ns.map D.int).filter pD).map gD = (ns.filter p).map g := by
      rw [List.filter_map, List.map_map]
      rfl
    rw [e]
    exact hd
theorem Du.comp_intsA (g : Int → D) [hw : WipN sl vs sl'] (hl : ns.length ≤ 100000)
    (h : ∀ n ∈ ns, TgK t (.int n) ⟨sl', ce, ce.length⟩ fun s1 => Ge f s1 (fun v s3 => v = g n ∧ s3.ce = ce) FX)
    (hd : kl (ns.map g) ⟨sl, ce, n0⟩) : CompK t vs bYes f (ns.map .int) ⟨sl, ce, n0⟩ kl := by
  refine comp_ints (fun _ => true) g hl (fun n hn => (h n hn).m fun s hs => ⟨rfl, fun _ => hs, fun z => by cases z⟩) ?_
  rw [List.filter_eq_self.mpr fun _ _ => rfl]
  exact hd
/-- over any items -/
theorem Du.comp_any (p : D → Bool) (g : D → D) [hw : WipN sl vs sl'] (hl : xs.length ≤ 100000)
    (h : ∀ d ∈ xs, TgK t d ⟨sl', ce, ce.length⟩ fun s1 => Gb c s1 (fun b s2 => b = p d ∧ (p d = true → Ge f s2 (fun v s3 => v = g d ∧ s3.ce = ce) FX) ∧ (p d = false → s2.ce = ce)) FX)
    (hd : kl ((xs.filter p).map g) ⟨sl, ce, n0⟩) : CompK t vs c f xs ⟨sl, ce, n0⟩ kl := by
  refine comp_pure p g hl (fun d hd => ?_) hd
  rw [hw.eq]
  exact h d hd
theorem Du.comp_anyA (g : D → D) [hw : WipN sl vs sl'] (hl : xs.length ≤ 100000)
    (h : ∀ d ∈ xs, TgK t d ⟨sl', ce, ce.length⟩ fun s1 => Ge f s1 (fun v s3 => v = g d ∧ s3.ce = ce) FX)
    (hd : kl (xs.map g) ⟨sl, ce, n0⟩) : CompK t vs bYes f xs ⟨sl, ce, n0⟩ kl := by
  refine comp_any (fun _ => true) g hl (fun n hn => (h n hn).m fun s hs => ⟨rfl, fun _ => hs, fun z => by cases z⟩) ?_
  rw [List.filter_eq_self.mpr fun _ _ => rfl]
  exact hd
/-- over a family f of any index -/
theorem Du.comp_fam {α : Type} (l : List α) (u : α → D) (p : α → Bool) (g : α → D) [hw : WipN sl vs sl'] (hl : l.length ≤ 100000)
    (h : ∀ a ∈ l, TgK t (u a) ⟨sl', ce, ce.length⟩ fun s1 => Gb c s1 (fun b s2 => b = p a ∧ (p a = true → Ge f s2 (fun v s3 => v = g a ∧ s3.ce = ce) FX) ∧ (p a = false → s2.ce = ce)) FX)
    (hd : kl ((l.filter p).map g) ⟨sl, ce, n0⟩) : CompK t vs c f (l.map u) ⟨sl, ce, n0⟩ kl := by
  refine ⟨fun i acc ce' => acc = ((l.take i).filter p).map g ∧ ce' = ce, ⟨rfl, rfl⟩, by rw [List.length_map]; exact hl, ?_, ?_, ?_⟩
  · rintro i acc ce' ⟨rfl, _⟩
    rw [List.length_map]
    exact Nat.le_trans (List.length_filter_le _ _) (by rw [List.length_take]; omega)
  · rintro j d acc ce' hj ⟨rfl, rfl⟩
    rw [List.getElem?_map] at hj
    cases ha : l[j]? with
    | none =>
      rw [ha] at hj
      cases hj
    | some a =>
      rw [ha] at hj
      cases hj
      obtain ⟨s1, e1, q⟩ := h a (List.mem_of_getElem? ha)
      refine ⟨s1, ?_, ?_⟩
      · show t (u a) ⟨wipeD sl vs, _, _⟩ = _
        rw [hw.eq]
        exact e1
      · have et : l.take (j + 1) = l.take j ++ [a] := by
          rw [List.take_succ, ha] <;> rfl
        refine GrB.m1 q fun b s2 ⟨h1, h2, h3⟩ => ?_
        subst h1
        cases hp : p a with
        | true =>
          refine br_t rfl (Gr.m1 (h2 hp) fun v s3 ⟨h4, h5⟩ => ⟨?_, h5⟩)
          rw [et, List.filter_append, List.map_append, h4]
          simp [List.filter, hp]
        | false =>
          refine br_f rfl ⟨?_, h3 hp⟩
          rw [et, List.filter_append, List.map_append]
          simp [List.filter, hp]
  · rintro acc ce' ⟨rfl, rfl⟩
    rw [List.length_map, List.take_length]
    exact hd
theorem Du.comp_famA {α : Type} (l : List α) (u : α → D) (g : α → D) [hw : WipN sl vs sl'] (hl : l.length ≤ 100000)
    (h : ∀ a ∈ l, TgK t (u a) ⟨sl', ce, ce.length⟩ fun s1 => Ge f s1 (fun v s3 => v = g a ∧ s3.ce = ce) FX)
    (hd : kl (l.map g) ⟨sl, ce, n0⟩) : CompK t vs bYes f (l.map u) ⟨sl, ce, n0⟩ kl := by
  refine comp_fam l u (fun _ => true) g hl (fun n hn => (h n hn).m fun s hs => ⟨rfl, fun _ => hs, fun z => by cases z⟩) ?_
  rw [List.filter_eq_self.mpr fun _ _ => rfl]
  exact hd
/-- two clauses over ints -/
def Du.Comp2K (t : DT) (vs : List Nat) (c : DB) (it1 : DI) (t1 : DT) (vs1 : List Nat) (c1 : DB) (f : DE) (xs : List D) (s : S) (kl : KL') : Prop := Gr (compL2 t vs c it1 t1 vs1 c1 f xs [] s) kl (fun _ _ _ => False) (fun _ _ => False) FX
theorem Du.n_comp2 {it it1 : DI} {t1 : DT} {vs1 : List Nat} {c1 : DB} (h : Gi it s (fun xs s => Comp2K t vs c it1 t1 vs1 c1 f xs s kl) x) : Gn (dComp2 it t vs c it1 t1 vs1 c1 f) s kl ki k x :=
  gr_bindI (GrI.m1 h fun xs s h => by
    unfold Comp2K at h
    generalize compL2 t vs c it1 t1 vs1 c1 f xs [] s = r at *
    cases r with
    | nl ys s => exact h
    | _ => exact h.elim)
theorem Du.comp2_ints {as bs : List Int} {i1 t0 t1 : Nat} {vs1 : List Nat} (g : Int → Int → D) (hl : as.length * bs.length ≤ 100000)
    (h : ∀ a ∈ as, ∃ s1, tgN t0 (.int a) ⟨wipeD sl vs, ce, ce.length⟩ = some s1 ∧ s1.ce = ce ∧ s1.sl[i1]? = some (some (lI bs)) ∧
      ∀ b ∈ bs, TgK (tgN t1) (.int b) ⟨wipeD s1.sl vs1, ce, ce.length⟩ fun s2 => Ge f s2 (fun v s3 => v = g a b ∧ s3 = s2) FX)
    (hd : kl (as.map fun a => bs.map (g a)).flatten ⟨sl, ce, n0⟩) : Comp2K (tgN t0) vs bYes (iL (dVar i1)) (tgN t1) vs1 bYes f (as.map .int) ⟨sl, ce, n0⟩ kl := by
  let gD : D → D → D := fun d e => match d, e with
    | .int a, .int b => g a b
    | _, _ => .non
  have e := compL2_pu (t := tgN t0) (t1 := tgN t1) (vs := vs) (vs1 := vs1) (it1 := iL (dVar i1)) (f := f) (s := ⟨sl, ce, n0⟩) (xs := as.map .int) gD (bs.map .int) (fun d hd => by
    obtain ⟨a, ha, rfl⟩ := List.mem_map.mp hd
    obtain ⟨s1, e1, e2, e3, h4⟩ := h a ha
    refine ⟨s1, e1, e2, ?_, fun y hy => ?_⟩
    · unfold iL dVar
      rw [e3] <;> rfl
    · obtain ⟨b, hb, rfl⟩ := List.mem_map.mp hy
      obtain ⟨s2, q1, q2⟩ := h4 b hb
      have q1' : tgN t1 (.int b) (inS vs1 s1) = some s2 := by
        unfold inS
        rw [e2]
        exact q1
      refine ⟨s2, q1', ?_, ?_⟩
      · cases q1'
        rfl
      · have q3 : Gr (f s2) noL noI (fun v s3 => v = g a b ∧ s3 = s2) FX := q2
        generalize f s2 = r at *
        cases r with
        | ok v s3 =>
          obtain ⟨rfl, rfl⟩ := q3
          rfl
        | _ => exact q3.elim) (by rw [List.length_map, List.length_map]; exact hl)
  unfold Comp2K
  rw [e]
  have e2 : ((as.map D.int).map fun d => (bs.map D.int).map (gD d)).flatten = (as.map fun a => bs.map (g a)).flatten := by
    rw [List.map_map]
    congr 1
    refine List.map_congr_left fun a _ => ?_
    show (bs.map D.int).map (gD (.int a)) = _
    rw [List.map_map]
    rfl
  show kl _ _
  rw [e2]
  exact hd
end
/-! a thing of one's own is given away -/
section
variable {kl : KL'} {ki : KI'} {k : KD} {x : KX} {i j c : Nat} {sl : List (Option D)} {ce : List Cell} {n0 : Nat} {fs : List (Str × D)} {xs : List D}
theorem Du.g_shareI [h0 : GetN sl i (.rf j)] (hj : n0 ≤ j) (e : ce[j]? = some (.ins c fs)) (h : SetK i (.obj c fs) ⟨sl, ce, n0⟩ fun s => WrK j .gone s (k (.obj c fs))) : Gn (dShare i) ⟨sl, ce, n0⟩ kl ki k x := by
  show Gr (match sl[i]? with
    | some (some d) => shareK i ⟨sl, ce, n0⟩ d
    | _ => .no) kl ki k x
  rw [h0.eq]
  show Gr (if n0 ≤ j then shareC i j ⟨sl, ce, n0⟩ ce[j]? else .no) kl ki k x
  rw [if_pos hj, e]
  exact h
theorem Du.g_shareL [h0 : GetN sl i (.rf j)] (hj : n0 ≤ j) (e : ce[j]? = some (.lst xs)) (h : SetK i (.lst xs) ⟨sl, ce, n0⟩ fun s => WrK j .gone s (k (.lst xs))) : Gn (dShare i) ⟨sl, ce, n0⟩ kl ki k x := by
  show Gr (match sl[i]? with
    | some (some d) => shareK i ⟨sl, ce, n0⟩ d
    | _ => .no) kl ki k x
  rw [h0.eq]
  show Gr (if n0 ≤ j then shareC i j ⟨sl, ce, n0⟩ ce[j]? else .no) kl ki k x
  rw [if_pos hj, e]
  exact h
end
class NeS (a b : Str) : Prop where
  ne : a ≠ b
instance ne_he : NeS (Str.ofString "_held") (Str.ofString "_earlier") := ⟨by decide⟩
instance ne_hm : NeS (Str.ofString "_held") (Str.ofString "_marks") := ⟨by decide⟩
instance ne_em : NeS (Str.ofString "_earlier") (Str.ofString "_marks") := ⟨by decide⟩
instance ne_fa : NeS (Str.ofString "_form") (Str.ofString "_asked") := ⟨by decide⟩
instance ne_eh : NeS (Str.ofString "_earlier") (Str.ofString "_held") := ⟨by decide⟩
instance ne_mh : NeS (Str.ofString "_marks") (Str.ofString "_held") := ⟨by decide⟩
instance ne_me : NeS (Str.ofString "_marks") (Str.ofString "_earlier") := ⟨by decide⟩
instance ne_af : NeS (Str.ofString "_asked") (Str.ofString "_form") := ⟨by decide⟩
class PutF (fs : List (Str × D)) (f : Str) (d : D) (gs : outParam (List (Str × D))) : Prop where
  eq : putFD f d fs = gs
instance putF0 {f : Str} {d : D} : PutF [] f d [(f, d)] := ⟨rfl⟩
instance (priority := 2000) putF1 {f : Str} {d x : D} {fs : List (Str × D)} : PutF ((f, x) :: fs) f d ((f, d) :: fs) := ⟨by
  show (if f = f then (f, d) :: fs else (f, x) :: putFD f d fs) = _
  rw [if_pos rfl]⟩
instance putF2 {f g : Str} {d x : D} {fs gs : List (Str × D)} [h0 : NeS g f] [h : PutF fs f d gs] : PutF ((g, x) :: fs) f d ((g, x) :: gs) := ⟨by
  show (if g = f then (g, d) :: fs else (g, x) :: putFD f d fs) = _
  rw [if_neg h0.ne, h.eq]⟩
def Du.PutK (j c0 : Nat) (fs : List (Str × D)) (nm : Str) (d : D) (s : S) (nx : KS) : Prop := WrK j (.ins c0 (putFD nm d fs)) s nx
theorem Du.putk {j c0 : Nat} {fs gs : List (Str × D)} {nm : Str} {d : D} {s : S} {nx : KS} [h0 : PutF fs nm d gs] (h : WrK j (.ins c0 gs) s nx) : PutK j c0 fs nm d s nx := by
  unfold PutK
  rw [h0.eq]
  exact h
theorem Du.x_setF {j c0 : Nat} {ce : List Cell} {fs : List (Str × D)} {nm : Str} {d : D} {s : S} {nx : KS} (e : ce[j]? = some (.ins c0 fs)) (hl : fs.length < 900) (h : PutK j c0 fs nm d s nx) :
    ∃ j' fs', D.rf j = .rf j' ∧ ce[j']? = some (.ins c0 fs') ∧ fs'.length < 900 ∧ WrK j' (.ins c0 (putFD nm d fs')) s nx := ⟨j, fs, rfl, e, hl, h⟩
end Dv

set_option maxRecDepth 100000
set_option maxHeartbeats 4000000
/-! Go: while; tapes of drawn numbers -/
namespace Dv
namespace Du
end Du
open Du
open PySem PySem.Spec PyProof.Rows L2
section
variable {nx bk ct : KS} {rt : R → Prop} {x : KX} {c : DB} {b : DS} {s : S}
/-- a loop, to be told by its invariant and what falls -/
def Du.WhK (c : DB) (b : DS) (s : S) (nx : KS) (rt : R → Prop) (x : KX) : Prop := ∃ (I : S → Prop) (μ : S → Nat), I s ∧ ∀ s, I s → Gb c s (fun t s1 => Br t (Gs b s1 (fun s2 => I s2 ∧ μ s2 < μ s) nx (fun s2 => I s2 ∧ μ s2 < μ s) rt x) (nx s1)) x
theorem Du.wl_go (I : S → Prop) (μ : S → Nat) (h : ∀ s, I s → Gb c s (fun t s1 => Br t (Gs b s1 (fun s2 => I s2 ∧ μ s2 < μ s) nx (fun s2 => I s2 ∧ μ s2 < μ s) rt x) (nx s1)) x) :
    ∀ (k : Nat) (s : S), I s → μ s ≤ k → ∃ n, GrO (wl c b n s) nx bk ct rt x := by
  intro k
  induction k with
  | zero =>
    intro s hI hk
    have h1 := h s hI
    unfold Gb at h1
    cases e : c s with
    | ok t s1 =>
      rw [e] at h1
      cases t with
      | false => exact ⟨1, by show GrO (bindBO (c s) _) nx bk ct rt x; rw [e]; exact h1⟩
      | true =>
        have h2 : Gs b s1 (fun s2 => I s2 ∧ μ s2 < μ s) nx (fun s2 => I s2 ∧ μ s2 < μ s) rt x := h1
        refine ⟨1, ?_⟩
        show GrO (bindBO (c s) _) nx bk ct rt x
        rw [e]
        show GrO (loopK (b s1) (wl c b 0)) nx bk ct rt x
        unfold Gs at h2
        generalize b s1 = o at *
        cases o with
        | nx s2 => exact absurd h2.2 (by omega)
        | ct s2 => exact absurd h2.2 (by omega)
        | _ => exact h2
    | er e1 s1 =>
      rw [e] at h1
      exact ⟨1, by show GrO (bindBO (c s) _) nx bk ct rt x; rw [e]; exact h1⟩
    | no =>
      rw [e] at h1
      exact h1.elim
  | succ k ih =>
    intro s hI hk
    have h1 := h s hI
    unfold Gb at h1
    cases e : c s with
    | ok t s1 =>
      rw [e] at h1
      cases t with
      | false => exact ⟨1, by show GrO (bindBO (c s) _) nx bk ct rt x; rw [e]; exact h1⟩
      | true =>
        have h2 : Gs b s1 (fun s2 => I s2 ∧ μ s2 < μ s) nx (fun s2 => I s2 ∧ μ s2 < μ s) rt x := h1
        unfold Gs at h2
        cases e2 : b s1 with
        | nx s2 =>
          rw [e2] at h2
          obtain ⟨n, hn⟩ := ih s2 h2.1 (by have := h2.2; omega)
          exact ⟨n + 1, by show GrO (bindBO (c s) _) nx bk ct rt x; rw [e]; show GrO (loopK (b s1) (wl c b n)) nx bk ct rt x; rw [e2]; exact hn⟩
        | ct s2 =>
          rw [e2] at h2
          obtain ⟨n, hn⟩ := ih s2 h2.1 (by have := h2.2; omega)
          exact ⟨n + 1, by show GrO (bindBO (c s) _) nx bk ct rt x; rw [e]; show GrO (loopK (b s1) (wl c b n)) nx bk ct rt x; rw [e2]; exact hn⟩
        | _ =>
          rw [e2] at h2
          exact ⟨1, by show GrO (bindBO (c s) _) nx bk ct rt x; rw [e]; show GrO (loopK (b s1) (wl c b 0)) nx bk ct rt x; rw [e2]; exact h2⟩
    | er e1 s1 =>
      rw [e] at h1
      exact ⟨1, by show GrO (bindBO (c s) _) nx bk ct rt x; rw [e]; exact h1⟩
    | no =>
      rw [e] at h1
      exact h1.elim
theorem Du.g_while (h : WhK c b s nx rt x) : Gs (sWhile c b) s nx bk ct rt x := by
  obtain ⟨I, μ, hI, hs⟩ := h
  obtain ⟨n, hn⟩ := wl_go (bk := bk) (ct := ct) I μ hs (μ s) s hI (Nat.le_refl _)
  unfold Gs
  have hne : wl c b n s ≠ .no := fun z => by
    rw [z] at hn
    exact hn
  rw [r_while n rfl hne]
  exact hn
theorem Du.while_inv (I : S → Prop) (μ : S → Nat) (h0 : I s) (h : ∀ s, I s → Gb c s (fun t s1 => Br t (Gs b s1 (fun s2 => I s2 ∧ μ s2 < μ s) nx (fun s2 => I s2 ∧ μ s2 < μ s) rt x) (nx s1)) x) : WhK c b s nx rt x := ⟨I, μ, h0, h⟩
end
/-! a tape -/
structure Tp where
  a : Int
  b : Int
  c : Int
abbrev Tp.xs (T : Tp) : List D := [.int T.a, .int T.b, .int T.c]
structure Tpk (N : Nat) (T : Tp) : Prop where
  a : 0 ≤ T.a
  b : 0 ≤ T.b
  b' : T.b < 2 ^ 220
  c : 0 ≤ T.c
  c' : T.c ≤ N
theorem Tpk.up {N M : Nat} {T : Tp} (h : Tpk N T) (le : N ≤ M) : Tpk M T := ⟨h.a, h.b, h.b', h.c, by have := h.c'; omega⟩
/-- the cell of the tape at j -/
abbrev Tc (ce : List Cell) (j : Nat) (T : Tp) : Prop := ce[j]? = some (.lst T.xs)
theorem bits_le {i : Int} {k : Nat} (h0 : 0 ≤ i) (h : i < 2 ^ k) : bits i ≤ k := by
  by_cases hk : 0 < k
  · exact Nat.le_of_lt (bits_lt h0 h hk)
  · have : k = 0 := by omega
    subst this
    have : i = 0 := by
      have : (2 : Int) ^ 0 = 1 := rfl
      omega
    subst this
    decide
theorem pow_le' {i : Int} {k : Nat} {j : Int} (h0 : 0 ≤ i) (h : i < 2 ^ k) (hj : 0 ≤ j) (hk : ((k : Int) + 1) * j ≤ 134217728) : 0 ≤ j ∧ ((bits i : Int) + 1) * j ≤ 134217728 := by
  refine ⟨hj, Int.le_trans ?_ hk⟩
  have := bits_le h0 h
  exact Int.mul_le_mul_of_nonneg_right (by omega) hj
/-! cells read -/
section
variable {kl : KL'} {k : KD} {s : S} {ce : List Cell} {i : Int} {j : Nat} {d : D} {xs : List D} {ns : List Int} {bs : List Bool}
theorem Du.q_powL {i j v : Int} (hb : 0 ≤ j ∧ ((bits i : Int) + 1) * j ≤ 134217728) (e : i ^ j.toNat = v) (h : k (.int v) s) : Gq (pPow ce (.int i) (.int j)) s kl k := q_pow hb (by rw [e]; exact h)
theorem Du.q_ixC (e : ce[j]? = some (.lst xs)) (e2 : atI xs i = some d) (h : k d s) : Gq (pIx ce (.rf j) (.int i)) s kl k := q_ix (by show cellL ce[j]? = _; rw [e] <;> rfl) e2 h
theorem Du.q_lenC (e : ce[j]? = some (.lst xs)) (h : k (.int (xs.length : Nat)) s) : Gq (b1 lenD ce [.rf j]) s kl k := q_len (by show cellL ce[j]? = _; rw [e] <;> rfl) h
theorem Du.q_listC (e : ce[j]? = some (.lst xs)) (h : kl xs s) : Gq (b1 listD ce [.rf j]) s kl k := q_list (by show cellL ce[j]? = _; rw [e] <;> rfl) h
theorem Du.q_sortedC (e : ce[j]? = some (.lst (ns.map .int))) (h : kl ((isortI ns).map .int) s) : Gq (b1 sortedD ce [.rf j]) s kl k := q_sorted (by show cellL ce[j]? = _; rw [e] <;> rfl) h
theorem Du.q_sumC (e : ce[j]? = some (.lst (ns.map .int))) (h : k (.int ns.sum) s) : Gq (b1 sumD ce [.rf j]) s kl k := q_sum (by show cellL ce[j]? = _; rw [e] <;> rfl) h
theorem Du.q_allC (e : ce[j]? = some (.lst (bs.map .bl))) (h : k (.bl (bs.all id)) s) : Gq (b1 allD ce [.rf j]) s kl k := q_all (by show cellL ce[j]? = _; rw [e] <;> rfl) h
/-- an item of a list of ints by a number -/
theorem atI_map {α : Type} (f : α → D) {l : List α} {i : Int} {a : α} (h0 : 0 ≤ i) (h : l[i.toNat]? = some a) : atI (l.map f) i = some (f a) := by
  have hl := (List.getElem?_eq_some_iff.mp h).1
  unfold atI
  have e : ixN (l.map f).length i = some i.toNat := by
    unfold ixN
    rw [List.length_map, if_pos h0, if_pos (by omega)]
  rw [e]
  show (l.map f)[i.toNat]? = _
  rw [List.getElem?_map, h] <;> rfl
theorem Du.m_cnt {n : Int} (e : look ce d = some (ns.map .int)) (h : k (.int ((ns.count n : Nat) : Int)) s) : Gm (mCnt ce d [.int n]) s kl k := by
  show Gm (cntK (look ce d) (.int n)) s kl k
  rw [e]
  show Gm (match intsD (ns.map .int) with
      | some ns => Mo.v (.int ((ns.count n : Nat) : Int))
      | none => .no) s kl k
  rw [intsD_map]
  exact h
theorem Du.n_sortSetG {ki : KI'} {x : KX} {f : DE} {s : S} (h : Ge f s (fun d s => At s fun sl ce n0 => ∃ ns : List Int, look ce d = some (ns.map .int) ∧ ns.length < 4000 ∧ kl ((sset ns).map .int) ⟨sl, ce, n0⟩) x) : Gn (dSortSetG f) s kl ki k x :=
  gr_bind (Gr.m1 h fun d s ⟨ns, e, hl, h⟩ => by
    show Gr (sortSetG s (look s.ce d)) kl ki k x
    rw [e]
    show Gr (match intsD (ns.map .int) with
      | some ns => if ns.length < 4000 then R.nl ((sset ns).map .int) s else .no
      | none => .no) kl ki k x
    rw [intsD_map]
    show Gr (if ns.length < 4000 then R.nl ((sset ns).map .int) s else .no) kl ki k x
    rw [if_pos hl]
    exact h)
end
/-! cells by search -/
class LtL (j : Nat) (ce : List Cell) : Prop where
  lt : j < ce.length
instance ltl_set {j i : Nat} {ce : List Cell} {c : Cell} [h : LtL j ce] : LtL j (ce.set i c) := ⟨by rw [List.length_set]; exact h.lt⟩
instance ltl_app {j : Nat} {ce own : List Cell} [h : LtL j ce] : LtL j (ce ++ own) := ⟨by rw [List.length_append]; have := h.lt; omega⟩
class LenC (ce : List Cell) (n : outParam Nat) : Prop where
  eq : ce.length = n
instance (priority := 100) lenC0 {ce : List Cell} : LenC ce ce.length := ⟨rfl⟩
instance lenC1 {ce : List Cell} {n j : Nat} {c : Cell} [h : LenC ce n] : LenC (ce.set j c) n := ⟨by rw [List.length_set]; exact h.eq⟩
class GetC (ce : List Cell) (j : Nat) (c : outParam Cell) : Prop where
  eq : ce[j]? = some c
instance (priority := 2000) getC_set {ce : List Cell} {j : Nat} {c : Cell} [h : LtL j ce] : GetC (ce.set j c) j c := ⟨ce_set h.lt⟩
instance (priority := 1500) getC_last {ce : List Cell} {n : Nat} {c : Cell} [h : LenC ce n] : GetC (ce ++ [c]) n c := ⟨by rw [← h.eq]; exact ce_one⟩
instance getC_app {ce own : List Cell} {j : Nat} {c : Cell} [h : GetC ce j c] : GetC (ce ++ own) j c := ⟨ce_app h.eq⟩
instance (priority := 1400) getC_l0 {ce : List Cell} {n : Nat} {c d : Cell} [h : LenC ce n] : GetC (ce ++ [c, d]) n c := ⟨by rw [← h.eq]; simp⟩
instance (priority := 1400) getC_l1 {ce : List Cell} {n : Nat} {c d : Cell} [h : LenC ce n] : GetC (ce ++ [c, d]) (n + 1) d := ⟨by rw [← h.eq]; simp⟩
class SetF (ce : List Cell) (j : Nat) (f : outParam (Cell → List Cell)) : Prop where
  eq : ∀ c, ce.set j c = f c
instance (priority := 100) setF0 {ce : List Cell} {j : Nat} : SetF ce j (fun c => ce.set j c) := ⟨fun _ => rfl⟩
instance (priority := 2000) setF1 {ce : List Cell} {j : Nat} {c0 : Cell} {f : Cell → List Cell} [h : SetF ce j f] : SetF (ce.set j c0) j f := ⟨fun c => by rw [set_set2, h.eq]⟩
instance setF2 {ce own : List Cell} {j : Nat} {f : Cell → List Cell} [h0 : LtL j ce] [h : SetF ce j f] : SetF (ce ++ own) j (fun c => f c ++ own) := ⟨fun c => by rw [set_app h0.lt, h.eq]⟩
instance (priority := 1500) setF3 {ce : List Cell} {n : Nat} {d : Cell} [h : LenC ce n] : SetF (ce ++ [d]) n (fun c => ce ++ [c]) := ⟨fun c => by rw [← h.eq]; exact set_one⟩
instance (priority := 1400) setF4 {ce : List Cell} {n : Nat} {d e : Cell} [h : LenC ce n] : SetF (ce ++ [d, e]) n (fun c => ce ++ [c, e]) := ⟨fun c => by rw [← h.eq]; simp⟩
instance (priority := 1400) setF5 {ce : List Cell} {n : Nat} {d e : Cell} [h : LenC ce n] : SetF (ce ++ [d, e]) (n + 1) (fun c => ce ++ [d, c]) := ⟨fun c => by rw [← h.eq]; simp⟩
theorem Du.wrkF {sl : List (Option D)} {ce : List Cell} {n0 j : Nat} {c : Cell} {nx : KS} {f : Cell → List Cell} [h0 : SetF ce j f] (h : nx ⟨sl, f c, n0⟩) : WrK j c ⟨sl, ce, n0⟩ nx := by
  show nx ⟨sl, ce.set j c, n0⟩
  rw [h0.eq]
  exact h
/-! the list in a cell, told plainly -/
class LSet (l : List D) (i : Nat) (d : D) (l' : outParam (List D)) : Prop where
  eq : l.set i d = l'
/-- an item by a drawn number: what all items are -/
theorem Du.q_ixP {kl : KL'} {k : KD} {s : S} {ce : List Cell} {a : D} {xs : List D} {i : Int} (P : D → Prop) (e : lookU ce a = some xs) (h0 : 0 ≤ i) (h1 : i < xs.length) (hP : ∀ d ∈ xs, P d) (h : ∀ d, P d → k d s) : Gq (pIx ce a (.int i)) s kl k := by
  have hl : i.toNat < xs.length := by omega
  refine q_ix (d := xs[i.toNat]) e ?_ (h _ (hP _ (List.getElem_mem hl)))
  unfold atI ixN
  rw [if_pos h0, if_pos (by omega)]
  exact List.getElem?_eq_getElem hl
theorem all2 {P : D → Prop} {a b : D} (h1 : P a) (h2 : P b) : ∀ d ∈ [a, b], P d := fun d hd => by
  rcases List.mem_cons.mp hd with z | z
  · subst z; exact h1
  · cases List.mem_singleton.mp z; exact h2
theorem all1 {P : D → Prop} {a : D} {l : List D} (h1 : P a) (h2 : ∀ d ∈ l, P d) : ∀ d ∈ a :: l, P d := fun d hd => by
  rcases List.mem_cons.mp hd with z | z
  · subst z; exact h1
  · exact h2 d z
theorem all0 {P : D → Prop} : ∀ d ∈ ([] : List D), P d := fun d hd => by cases hd
theorem rng_mem {n : Nat} {d : D} {j : Nat} (h : (rngD 0 n)[j]? = some d) : d = .int (j : Int) ∧ j < n := by
  unfold rngD at h
  rw [List.getElem?_map] at h
  cases e : (List.range n)[j]? with
  | none =>
    rw [e] at h
    cases h
  | some i =>
    rw [e] at h
    obtain ⟨h1, h2⟩ := List.getElem?_eq_some_iff.mp e
    rw [List.length_range] at h1
    rw [List.getElem_range] at h2
    subst h2
    cases h
    exact ⟨by show D.int (0 + (_ : Int)) = _; rw [Int.zero_add], h1⟩
theorem rngD_length (lo : Int) (n : Nat) : (rngD lo n).length = n := by unfold rngD; rw [List.length_map, List.length_range]
theorem bits_small {i : Int} (h0 : 0 ≤ i) (h : i < 2 ^ 400) : bits i < 9000 := Nat.lt_of_le_of_lt (bits_le h0 h) (by decide)
/-- numbers of a form that callers may pass -/
structure Gt (n : Nat) (L : List Int) : Prop where
  fm : Fm L
  lt : ∀ x ∈ L, x < 100000000000000000000
  len : L.length ≤ n
theorem Gt.good {n : Nat} {L : List Int} (h : Gt n L) (hn : n ≤ 200) : Dv.good L = true := by
  have := h.len
  unfold Dv.good
  rw [Bool.and_eq_true, Bool.and_eq_true, decide_eq_true_iff]
  refine ⟨⟨by omega, List.all_eq_true.mpr fun x hx => ?_⟩, asc_zip h.fm.asc⟩
  have h1 := h.fm.pos x hx
  have h2 := h.lt x hx
  rw [Bool.and_eq_true, decide_eq_true_iff, decide_eq_true_iff]
  exact ⟨by omega, h2⟩
theorem insS_mem' {k x : Int} : ∀ {l : List Int}, x ∈ insS k l ↔ x = k ∨ x ∈ l := insS_mem
theorem gt_sset {n : Nat} {l : List Int} (h : ∀ x ∈ l, 0 < x ∧ x < 100000000000000000000) (hl : l.length ≤ n) : Gt n (sset l) :=
  ⟨⟨fun x hx => (h x (sset_mem.mp hx)).1, sset_asc l⟩, fun x hx => (h x (sset_mem.mp hx)).2, Nat.le_trans (sset_len l) hl⟩
theorem x_lkL {ce : List Cell} {xs : List D} {p : Prop} (h : p) : isL ce (.lst xs) = true ∧ p := ⟨rfl, h⟩
theorem x_lkR {ce : List Cell} {xs : List D} {p : Prop} (h : p) : isL ce (.ro xs) = true ∧ p := ⟨rfl, h⟩
end Dv

set_option maxRecDepth 100000
set_option maxHeartbeats 4000000
/-! Go: data that can be written out -/
namespace Dv
namespace Du
end Du
open Du
open PySem PySem.Spec PyProof.Rows L2
structure Rp (n w : Nat) (p : PyData) : Prop where
  sh : p.showable = true
  di : p.hasDict = false
  de : p.depth ≤ n
  le : p.shown.length ≤ w
  pl : plainP p = true
theorem Rp.ok {n w : Nat} {p : PyData} (h : Rp n w p) (hn : n ≤ 50) (hw : w ≤ 1000000) : rpOk p := ⟨h.sh, h.di, Nat.le_trans h.de hn, Nat.le_trans h.le hw⟩
theorem Rp.str {n w : Nat} {p : PyData} (h : Rp n w p) : PyData.strOk p.shown = true := ok_plain p h.pl
theorem Rp.up {n w n' w' : Nat} {p : PyData} (h : Rp n w p) (hn : n ≤ n') (hw : w ≤ w') : Rp n' w' p := ⟨h.sh, h.di, Nat.le_trans h.de hn, Nat.le_trans h.le hw, h.pl⟩
theorem rp_non : Rp 0 5 .none := ⟨rfl, rfl, Nat.le_refl _, by decide, rfl⟩
theorem rp_bool (b : Bool) : Rp 0 5 (.bool b) := ⟨rfl, rfl, Nat.le_refl _, by cases b <;> decide, rfl⟩
theorem rp_int {i : Int} {k : Nat} (h : i.natAbs < 2 ^ k) (hk : k < 1900) : Rp 0 (k + 2) (.int i) := by
  have hl : i.natAbs.log2 < k + 1 := by
    by_cases h0 : i.natAbs = 0
    · rw [h0]
      exact Nat.succ_pos _
    · have := (Nat.log2_lt h0).mpr h
      omega
  refine ⟨?_, rfl, Nat.le_refl _, ?_, rfl⟩
  · exact decide_eq_true (by omega)
  · show (Str.ofString (toString i)).length ≤ _
    rw [PySem.ofString_length]
    exact int_text_length_le (k := k + 1) (by omega) hl
theorem rp_list {n w : Nat} {l : List PyData} (h : ∀ p ∈ l, Rp n w p) : Rp (n + 1) (l.length * (w + 2) + 3) (.list l) := by
  have k : PyData.showableAll l = true ∧ PyData.hasDictAll l = false ∧ PyData.depthAll l ≤ n ∧ ((PyData.shownAll l).map (·.length)).sum ≤ l.length * w ∧ plainPs l = true := by
    induction l with
    | nil => exact ⟨rfl, rfl, Nat.zero_le _, Nat.zero_le _, rfl⟩
    | cons p r ih =>
      obtain ⟨a1, a2, a3, a4, a5⟩ := ih fun q hq => h q (List.mem_cons_of_mem _ hq)
      have b := h p List.mem_cons_self
      refine ⟨?_, ?_, ?_, ?_, ?_⟩
      · show (p.showable && PyData.showableAll r) = true
        rw [a1, b.sh] <;> rfl
      · show (p.hasDict || PyData.hasDictAll r) = false
        rw [a2, b.di] <;> rfl
      · show max p.depth (PyData.depthAll r) ≤ n
        have := b.de
        omega
      · rw [PyData.shownAll_cons, List.map_cons, List.sum_cons, List.length_cons, Nat.succ_mul]
        have := b.le
        omega
      · show (plainP p && plainPs r) = true
        rw [a5, b.pl] <;> rfl
  obtain ⟨a1, a2, a3, a4, a5⟩ := k
  refine ⟨a1, a2, ?_, ?_, a5⟩
  · show PyData.depthAll l + 1 ≤ n + 1
    omega
  · have e : PyData.shown (.list l) = listText (PyData.shownAll l) := by simp only [PyData.shown]
    have h2 := listText_len_le (PyData.shownAll l)
    have h3 := PyData.shownAll_length l
    rw [e, Nat.mul_add]
    omega
theorem rp_two {n w : Nat} {p q : PyData} (h1 : Rp n w p) (h2 : Rp n w q) : Rp (n + 1) (2 * (w + 2) + 3) (.list [p, q]) := rp_list (l := [p, q]) fun z hz => by
  rcases List.mem_cons.mp hz with rfl | hz
  · exact h1
  · cases List.mem_singleton.mp hz
    exact h2
theorem Du.q_reprR {kl : KL'} {k : KD} {s : S} {ce : List Cell} {a : D} {p : PyData} {n w : Nat} (hp : toP3 ce a = some p) (h : Rp n w p) (hn : n ≤ 50) (hw : w ≤ 1000000) (q : k (.str p.shown) s) : Gq (b1 reprD ce [a]) s kl k := q_repr hp (h.ok hn hw) q
section
variable {kl : KL'} {k : KD} {s : S} {ce : List Cell} {ns : List Int} {x : Int} {r : List Int}
theorem Du.q_neE (h : k (.bl (!decide (ns = []))) s) : Gq (pNe ce (.lst (ns.map .int)) (.lst [])) s kl k := q_neL (v := []) h
theorem Du.q_eqE (h : k (.bl (decide (ns = []))) s) : Gq (pEq ce (.lst (ns.map .int)) (.lst [])) s kl k := q_eqL (v := []) h
theorem Du.q_neE0 (h : k (.bl false) s) : Gq (pNe ce (.lst ([].map .int)) (.lst [])) s kl k := q_neE h
theorem Du.q_eqE0 (h : k (.bl true) s) : Gq (pEq ce (.lst ([].map .int)) (.lst [])) s kl k := q_eqE h
theorem Du.q_neE1 (h : k (.bl true) s) : Gq (pNe ce (.lst ((x :: r).map .int)) (.lst [])) s kl k := q_neE h
theorem Du.q_eqE1 (h : k (.bl false) s) : Gq (pEq ce (.lst ((x :: r).map .int)) (.lst [])) s kl k := q_eqE h
theorem Du.q_ix1 (h : k (.int x) s) : Gq (pIx ce (.lst ((x :: r).map .int)) (.int 0)) s kl k := q_ix (xs := (x :: r).map .int) rfl (atI_map D.int (l := x :: r) (i := 0) (by decide) rfl) h
theorem Du.q_reprN (h : k (.str (PyData.shown .none)) s) : Gq (b1 reprD ce [.non]) s kl k := q_reprR (p := .none) rfl rp_non (by decide) (by decide) h
theorem Du.q_reprI {i : Int} {m : Nat} (hi : i.natAbs < 2 ^ m) (hm : m < 1900) (h : k (.str (PyData.shown (.int i))) s) : Gq (b1 reprD ce [.int i]) s kl k := q_reprR (p := .int i) rfl (rp_int hi hm) (by decide) (by omega) h
theorem sok_non : PyData.strOk (PyData.shown .none) = true := rp_non.str
theorem sok_int (i : Int) : PyData.strOk (PyData.shown (.int i)) = true := ok_plain _ rfl
end
/-- data that equals itself -/
def Ly (n : Nat) (d : D) : Prop := ∃ p, toP d = some p ∧ p.canLay0 = true ∧ p.depth ≤ n ∧ PyData.eqv p p = true
theorem ly_int (i : Int) : Ly 0 (.int i) := ⟨.int i, rfl, by simp [PyData.canLay0], Nat.le_refl _, by simp [PyData.eqv]⟩
theorem ly_bl (b : Bool) : Ly 0 (.bl b) := ⟨.bool b, rfl, by simp [PyData.canLay0], Nat.le_refl _, by simp [PyData.eqv]⟩
theorem ly_non : Ly 0 .non := ⟨.none, rfl, by simp [PyData.canLay0], Nat.le_refl _, by simp [PyData.eqv]⟩
theorem ly_all {n : Nat} : ∀ {ds : List D}, (∀ d ∈ ds, Ly n d) → ∃ ps, toPs ds = some ps ∧ PyData.canLayAll0 ps = true ∧ PyData.depthAll ps ≤ n ∧ PyData.eqvAll ps ps = true
  | [], _ => ⟨[], rfl, by simp [PyData.canLayAll0], by simp [PyData.depthAll], by simp [PyData.eqvAll]⟩
  | d :: ds, h => by
    obtain ⟨p, a1, a2, a3, a4⟩ := h d List.mem_cons_self
    obtain ⟨ps, b1, b2, b3, b4⟩ := ly_all fun z hz => h z (List.mem_cons_of_mem _ hz)
    refine ⟨p :: ps, ?_, ?_, ?_, ?_⟩
    · show (match toP d, toPs ds with
        | some p, some ps => some (p :: ps)
        | _, _ => none) = _
      rw [a1, b1]
    · show (p.canLay0 && PyData.canLayAll0 ps) = true
      rw [a2, b2] <;> rfl
    · show max p.depth (PyData.depthAll ps) ≤ n
      omega
    · show (PyData.eqv p p && PyData.eqvAll ps ps) = true
      rw [a4, b4] <;> rfl
theorem ly_lst {n : Nat} {ds : List D} (h : ∀ d ∈ ds, Ly n d) : Ly (n + 1) (.lst ds) := by
  obtain ⟨ps, b1, b2, b3, b4⟩ := ly_all h
  refine ⟨.list ps, ?_, b2, ?_, b4⟩
  · show (toPs ds).map PyData.list = _
    rw [b1] <;> rfl
  · show PyData.depthAll ps + 1 ≤ n + 1
    omega
theorem ly_tup {n : Nat} {ds : List D} (h : ∀ d ∈ ds, Ly n d) : Ly (n + 1) (.tup ds) := by
  obtain ⟨ps, b1, b2, b3, b4⟩ := ly_all h
  refine ⟨.tuple ps, ?_, b2, ?_, b4⟩
  · show (toPs ds).map PyData.tuple = _
    rw [b1] <;> rfl
  · show PyData.depthAll ps + 1 ≤ n + 1
    omega
theorem ly_ints (a : List Int) : Ly 1 (lI a) := ly_lst fun d hd => by
  obtain ⟨i, _, rfl⟩ := List.mem_map.mp hd
  exact ly_int i
theorem Ly.up {n m : Nat} {d : D} (h : Ly n d) (hn : n ≤ m) : Ly m d := by
  obtain ⟨p, a1, a2, a3, a4⟩ := h
  exact ⟨p, a1, a2, Nat.le_trans a3 hn, a4⟩
theorem ly_pc {n : Nat} {d : D} (h : Ly n d) (hn : n ≤ 64) (ce : List Cell) : ∃ p, toPc ce d = some p ∧ SeqAt.shaped p = true ∧ PyData.eqv p p = true := by
  obtain ⟨p, a1, a2, a3, a4⟩ := h
  refine ⟨p, ?_, ?_, a4⟩
  · cases d with
    | rf j => cases a1
    | _ => exact a1
  · unfold SeqAt.shaped
    rw [a2, decide_eq_true (by omega)] <;> rfl
theorem Du.q_same {kl : KL'} {k : KD} {s : S} {ce : List Cell} {d : D} {n : Nat} (h : Ly n d) (hn : n ≤ 64) (q : k (.bl true) s) : Gq (pEq ce d d) s kl k := by
  obtain ⟨p, e1, e2, e3⟩ := ly_pc h hn ce
  refine q_v (d := .bl true) ?_ q
  show eqP (toPc ce d) (toPc ce d) false = _
  rw [e1]
  show (if SeqAt.shaped p = true ∧ SeqAt.shaped p = true then Po.v (.bl (PyData.eqv p p)) else .no) = _
  rw [if_pos ⟨e2, e2⟩, e3]
theorem Du.q_sameN {kl : KL'} {k : KD} {s : S} {ce : List Cell} {d : D} {n : Nat} (h : Ly n d) (hn : n ≤ 64) (q : k (.bl false) s) : Gq (pNe ce d d) s kl k := by
  obtain ⟨p, e1, e2, e3⟩ := ly_pc h hn ce
  refine q_v (d := .bl false) ?_ q
  show eqP (toPc ce d) (toPc ce d) true = _
  rw [e1]
  show (if SeqAt.shaped p = true ∧ SeqAt.shaped p = true then Po.v (.bl (!PyData.eqv p p)) else .no) = _
  rw [if_pos ⟨e2, e2⟩, e3] <;> rfl
/-- over any items, an invariant of what is kept and of the cells -/
theorem Du.comp_invI {kl : KL'} {t : DT} {vs : List Nat} {c : DB} {f : DE} {xs : List D} {sl sl' : List (Option D)} {ce : List Cell} {n0 : Nat} [hw : WipN sl vs sl'] (I : Nat → List D → List Cell → Prop) (h0 : I 0 [] ce) (hl : xs.length ≤ 100000)
    (hb : ∀ i acc ce, I i acc ce → acc.length ≤ i)
    (hs : ∀ j d acc ce, xs[j]? = some d → I j acc ce → TgK t d ⟨sl', ce, ce.length⟩ fun s1 => Gb c s1 (fun b s2 => Br b (Ge f s2 (fun v s3 => I (j + 1) (acc ++ [v]) s3.ce) FX) (I (j + 1) acc s2.ce)) FX)
    (hd : ∀ acc ce, I xs.length acc ce → kl acc ⟨sl, ce, n0⟩) : CompK t vs c f xs ⟨sl, ce, n0⟩ kl := by
  refine ⟨I, h0, hl, hb, fun j d acc ce h1 h2 => ?_, hd⟩
  show TgK t d ⟨wipeD sl vs, _, _⟩ _
  rw [hw.eq]
  exact hs j d acc ce h1 h2
theorem cut_to {xs : List D} {i : Int} (h : 0 ≤ i) : cutD xs none (some i) = xs.take i.toNat := by
  show (xs.drop 0).take ((if i < 0 then (i + (xs.length : Int)).toNat else min i.toNat xs.length) - 0) = _
  rw [if_neg (by omega), List.drop_zero, Nat.sub_zero, Nat.min_comm]
  exact List.take_eq_take_iff.mpr (by omega)
theorem cut_from {xs : List D} {i : Int} (h : 0 ≤ i) : cutD xs (some i) none = xs.drop i.toNat := by
  show (xs.drop (if i < 0 then (i + (xs.length : Int)).toNat else min i.toNat xs.length)).take (xs.length - (if i < 0 then (i + (xs.length : Int)).toNat else min i.toNat xs.length)) = _
  rw [if_neg (by omega)]
  by_cases hi : i.toNat ≤ xs.length
  · rw [Nat.min_eq_left hi, List.take_of_length_le (by rw [List.length_drop] <;> omega)]
  · rw [Nat.min_eq_right (by omega), Nat.sub_self, List.take_zero, List.drop_of_length_le (by omega)]
end Dv

set_option maxRecDepth 100000
set_option maxHeartbeats 4000000
/-! Go: the same over predicates that don't unfold -/
namespace Dv
open PySem PySem.Spec PyProof.Rows L2
@[irreducible] noncomputable def Gr := @Du.Gr
theorem z_Gr : @Gr = @Du.Gr := by
  delta Gr
  rfl
@[irreducible] noncomputable def Gn := @Du.Gn
theorem z_Gn : @Gn = @Du.Gn := by
  delta Gn
  rfl
@[irreducible] noncomputable def Ge := @Du.Ge
theorem z_Ge : @Ge = @Du.Ge := by
  delta Ge
  rfl
@[irreducible] noncomputable def GrA := @Du.GrA
theorem z_GrA : @GrA = @Du.GrA := by
  delta GrA
  rfl
@[irreducible] noncomputable def Ga := @Du.Ga
theorem z_Ga : @Ga = @Du.Ga := by
  delta Ga
  rfl
@[irreducible] noncomputable def GrB := @Du.GrB
theorem z_GrB : @GrB = @Du.GrB := by
  delta GrB
  rfl
@[irreducible] noncomputable def Gb := @Du.Gb
theorem z_Gb : @Gb = @Du.Gb := by
  delta Gb
  rfl
@[irreducible] noncomputable def GrI := @Du.GrI
theorem z_GrI : @GrI = @Du.GrI := by
  delta GrI
  rfl
@[irreducible] noncomputable def Gi := @Du.Gi
theorem z_Gi : @Gi = @Du.Gi := by
  delta Gi
  rfl
@[irreducible] noncomputable def GrP := @Du.GrP
theorem z_GrP : @GrP = @Du.GrP := by
  delta GrP
  rfl
@[irreducible] noncomputable def Gp := @Du.Gp
theorem z_Gp : @Gp = @Du.Gp := by
  delta Gp
  rfl
@[irreducible] noncomputable def Gq := @Du.Gq
theorem z_Gq : @Gq = @Du.Gq := by
  delta Gq
  rfl
@[irreducible] noncomputable def Gf := @Du.Gf
theorem z_Gf : @Gf = @Du.Gf := by
  delta Gf
  rfl
@[irreducible] noncomputable def GrO := @Du.GrO
theorem z_GrO : @GrO = @Du.GrO := by
  delta GrO
  rfl
@[irreducible] noncomputable def Gs := @Du.Gs
theorem z_Gs : @Gs = @Du.Gs := by
  delta Gs
  rfl
@[irreducible] noncomputable def Br := @Du.Br
theorem z_Br : @Br = @Du.Br := by
  delta Br
  rfl
theorem br_t : ∀ {p q : Prop} {t : Bool} (e : t = true) (h : p), Br t p q := by
  simp only [z_Gr, z_Gn, z_Ge, z_GrA, z_Ga, z_GrB, z_Gb, z_GrI, z_Gi, z_GrP, z_Gp, z_Gq, z_Gf, z_GrO, z_Gs, z_Br]
  exact Du.br_t
theorem br_f : ∀ {p q : Prop} {t : Bool} (e : t = false) (h : q), Br t p q := by
  simp only [z_Gr, z_Gn, z_Ge, z_GrA, z_Ga, z_GrB, z_Gb, z_GrI, z_Gi, z_GrP, z_Gp, z_Gq, z_Gf, z_GrO, z_Gs, z_Br]
  exact Du.br_f
theorem br_dt : ∀ {p q c : Prop} [Decidable c] (e : c) (h : p), Br (decide c) p q := by
  simp only [z_Gr, z_Gn, z_Ge, z_GrA, z_Ga, z_GrB, z_Gb, z_GrI, z_Gi, z_GrP, z_Gp, z_Gq, z_Gf, z_GrO, z_Gs, z_Br]
  exact Du.br_dt
theorem br_df : ∀ {p q c : Prop} [Decidable c] (e : ¬c) (h : q), Br (decide c) p q := by
  simp only [z_Gr, z_Gn, z_Ge, z_GrA, z_Ga, z_GrB, z_Gb, z_GrI, z_Gi, z_GrP, z_Gp, z_Gq, z_Gf, z_GrO, z_Gs, z_Br]
  exact Du.br_df
theorem br_s : ∀ {p q : Prop} {t : Bool} (h1 : t = true → p) (h2 : t = false → q), Br t p q := by
  simp only [z_Gr, z_Gn, z_Ge, z_GrA, z_Ga, z_GrB, z_Gb, z_GrI, z_Gi, z_GrP, z_Gp, z_Gq, z_Gf, z_GrO, z_Gs, z_Br]
  exact Du.br_s
section
variable {kl kl' : KL'} {ki ki' : KI'} {k k' : KD} {x x' : KX} {r : R} {s : S}
theorem Gr.mono : ∀ (h : Gr r kl ki k x) (h1 : ∀ d s, k d s → k' d s) (h2 : ∀ d s, kl d s → kl' d s) (h3 : ∀ c d s, ki c d s → ki' c d s), Gr r kl' ki' k' x := by
  simp only [z_Gr, z_Gn, z_Ge, z_GrA, z_Ga, z_GrB, z_Gb, z_GrI, z_Gi, z_GrP, z_Gp, z_Gq, z_Gf, z_GrO, z_Gs, z_Br]
  exact Du.Gr.mono
theorem Gr.m1 : ∀ (h : Gr r kl ki k x) (h1 : ∀ d s, k d s → k' d s), Gr r kl ki k' x := by
  simp only [z_Gr, z_Gn, z_Ge, z_GrA, z_Ga, z_GrB, z_Gb, z_GrI, z_Gi, z_GrP, z_Gp, z_Gq, z_Gf, z_GrO, z_Gs, z_Br]
  exact Du.Gr.m1
theorem Gr.up : ∀ (h : Gr r noL noI k x), Gr r kl ki k x := by
  simp only [z_Gr, z_Gn, z_Ge, z_GrA, z_Ga, z_GrB, z_Gb, z_GrI, z_Gi, z_GrP, z_Gp, z_Gq, z_Gf, z_GrO, z_Gs, z_Br]
  exact Du.Gr.up
theorem gr_bind : ∀ {f : D → S → R} (h : Gr r noL noI (fun d s => Gr (f d s) kl ki k x) x), Gr (bindR r f) kl ki k x := by
  simp only [z_Gr, z_Gn, z_Ge, z_GrA, z_Ga, z_GrB, z_Gb, z_GrI, z_Gi, z_GrP, z_Gp, z_Gq, z_Gf, z_GrO, z_Gs, z_Br]
  exact Du.gr_bind
theorem gr_bindA : ∀ {r : RA} {f : List D → S → R} (h : GrA r (fun d s => Gr (f d s) kl ki k x) x), Gr (bindAR r f) kl ki k x := by
  simp only [z_Gr, z_Gn, z_Ge, z_GrA, z_Ga, z_GrB, z_Gb, z_GrI, z_Gi, z_GrP, z_Gp, z_Gq, z_Gf, z_GrO, z_Gs, z_Br]
  exact Du.gr_bindA
theorem gr_bindB : ∀ {r : RB} {f : Bool → S → R} (h : GrB r (fun d s => Gr (f d s) kl ki k x) x), Gr (bindBR r f) kl ki k x := by
  simp only [z_Gr, z_Gn, z_Ge, z_GrA, z_Ga, z_GrB, z_Gb, z_GrI, z_Gi, z_GrP, z_Gp, z_Gq, z_Gf, z_GrO, z_Gs, z_Br]
  exact Du.gr_bindB
theorem gr_bindI : ∀ {r : RI} {f : List D → S → R} (h : GrI r (fun d s => Gr (f d s) kl ki k x) x), Gr (bindIR r f) kl ki k x := by
  simp only [z_Gr, z_Gn, z_Ge, z_GrA, z_Ga, z_GrB, z_Gb, z_GrI, z_Gi, z_GrP, z_Gp, z_Gq, z_Gf, z_GrO, z_Gs, z_Br]
  exact Du.gr_bindI
theorem gr_bindP : ∀ {r : RP} {f : Option Int → S → R} (h : GrP r (fun d s => Gr (f d s) kl ki k x) x), Gr (bindPR r f) kl ki k x := by
  simp only [z_Gr, z_Gn, z_Ge, z_GrA, z_Ga, z_GrB, z_Gb, z_GrI, z_Gi, z_GrP, z_Gp, z_Gq, z_Gf, z_GrO, z_Gs, z_Br]
  exact Du.gr_bindP
theorem ga_bindR : ∀ {f : D → S → RA} {k : KL'} (h : Gr r noL noI (fun d s => GrA (f d s) k x) x), GrA (bindRA r f) k x := by
  simp only [z_Gr, z_Gn, z_Ge, z_GrA, z_Ga, z_GrB, z_Gb, z_GrI, z_Gi, z_GrP, z_Gp, z_Gq, z_Gf, z_GrO, z_Gs, z_Br]
  exact Du.ga_bindR
theorem ga_bindA : ∀ {r : RA} {f : List D → S → RA} {k : KL'} (h : GrA r (fun d s => GrA (f d s) k x) x), GrA (bindA r f) k x := by
  simp only [z_Gr, z_Gn, z_Ge, z_GrA, z_Ga, z_GrB, z_Gb, z_GrI, z_Gi, z_GrP, z_Gp, z_Gq, z_Gf, z_GrO, z_Gs, z_Br]
  exact Du.ga_bindA
theorem gb_bindR : ∀ {f : D → S → RB} {k : Bool → S → Prop} (h : Gr r noL noI (fun d s => GrB (f d s) k x) x), GrB (bindRB r f) k x := by
  simp only [z_Gr, z_Gn, z_Ge, z_GrA, z_Ga, z_GrB, z_Gb, z_GrI, z_Gi, z_GrP, z_Gp, z_Gq, z_Gf, z_GrO, z_Gs, z_Br]
  exact Du.gb_bindR
theorem gb_bindB : ∀ {r : RB} {f : Bool → S → RB} {k : Bool → S → Prop} (h : GrB r (fun d s => GrB (f d s) k x) x), GrB (bindB r f) k x := by
  simp only [z_Gr, z_Gn, z_Ge, z_GrA, z_Ga, z_GrB, z_Gb, z_GrI, z_Gi, z_GrP, z_Gp, z_Gq, z_Gf, z_GrO, z_Gs, z_Br]
  exact Du.gb_bindB
theorem gp_bindR : ∀ {f : D → S → RP} {k : Option Int → S → Prop} (h : Gr r noL noI (fun d s => GrP (f d s) k x) x), GrP (bindRP r f) k x := by
  simp only [z_Gr, z_Gn, z_Ge, z_GrA, z_Ga, z_GrB, z_Gb, z_GrI, z_Gi, z_GrP, z_Gp, z_Gq, z_Gf, z_GrO, z_Gs, z_Br]
  exact Du.gp_bindR
theorem gi_bindA : ∀ {r : RA} {f : List D → S → RI} {k : KL'} (h : GrA r (fun d s => GrI (f d s) k x) x), GrI (bindAI r f) k x := by
  simp only [z_Gr, z_Gn, z_Ge, z_GrA, z_Ga, z_GrB, z_Gb, z_GrI, z_Gi, z_GrP, z_Gp, z_Gq, z_Gf, z_GrO, z_Gs, z_Br]
  exact Du.gi_bindA
variable {nx bk ct : KS} {rt : R → Prop}
theorem go_bindR : ∀ {f : D → S → O} (h : Gr r noL noI (fun d s => GrO (f d s) nx bk ct rt x) x), GrO (bindO r f) nx bk ct rt x := by
  simp only [z_Gr, z_Gn, z_Ge, z_GrA, z_Ga, z_GrB, z_Gb, z_GrI, z_Gi, z_GrP, z_Gp, z_Gq, z_Gf, z_GrO, z_Gs, z_Br]
  exact Du.go_bindR
theorem go_bindA : ∀ {r : RA} {f : List D → S → O} (h : GrA r (fun d s => GrO (f d s) nx bk ct rt x) x), GrO (bindAO r f) nx bk ct rt x := by
  simp only [z_Gr, z_Gn, z_Ge, z_GrA, z_Ga, z_GrB, z_Gb, z_GrI, z_Gi, z_GrP, z_Gp, z_Gq, z_Gf, z_GrO, z_Gs, z_Br]
  exact Du.go_bindA
theorem go_bindB : ∀ {r : RB} {f : Bool → S → O} (h : GrB r (fun d s => GrO (f d s) nx bk ct rt x) x), GrO (bindBO r f) nx bk ct rt x := by
  simp only [z_Gr, z_Gn, z_Ge, z_GrA, z_Ga, z_GrB, z_Gb, z_GrI, z_Gi, z_GrP, z_Gp, z_Gq, z_Gf, z_GrO, z_Gs, z_Br]
  exact Du.go_bindB
theorem go_bindI : ∀ {r : RI} {f : List D → S → O} (h : GrI r (fun d s => GrO (f d s) nx bk ct rt x) x), GrO (bindIO r f) nx bk ct rt x := by
  simp only [z_Gr, z_Gn, z_Ge, z_GrA, z_Ga, z_GrB, z_Gb, z_GrI, z_Gi, z_GrP, z_Gp, z_Gq, z_Gf, z_GrO, z_Gs, z_Br]
  exact Du.go_bindI
theorem GrA.m1 : ∀ {r : RA} {k k' : KL'} (h : GrA r k x) (h1 : ∀ d s, k d s → k' d s), GrA r k' x := by
  simp only [z_Gr, z_Gn, z_Ge, z_GrA, z_Ga, z_GrB, z_Gb, z_GrI, z_Gi, z_GrP, z_Gp, z_Gq, z_Gf, z_GrO, z_Gs, z_Br]
  exact Du.GrA.m1
theorem GrB.m1 : ∀ {r : RB} {k k' : Bool → S → Prop} (h : GrB r k x) (h1 : ∀ d s, k d s → k' d s), GrB r k' x := by
  simp only [z_Gr, z_Gn, z_Ge, z_GrA, z_Ga, z_GrB, z_Gb, z_GrI, z_Gi, z_GrP, z_Gp, z_Gq, z_Gf, z_GrO, z_Gs, z_Br]
  exact Du.GrB.m1
theorem GrI.m1 : ∀ {r : RI} {k k' : KL'} (h : GrI r k x) (h1 : ∀ d s, k d s → k' d s), GrI r k' x := by
  simp only [z_Gr, z_Gn, z_Ge, z_GrA, z_Ga, z_GrB, z_Gb, z_GrI, z_Gi, z_GrP, z_Gp, z_Gq, z_Gf, z_GrO, z_Gs, z_Br]
  exact Du.GrI.m1
theorem GrP.m1 : ∀ {r : RP} {k k' : Option Int → S → Prop} (h : GrP r k x) (h1 : ∀ d s, k d s → k' d s), GrP r k' x := by
  simp only [z_Gr, z_Gn, z_Ge, z_GrA, z_Ga, z_GrB, z_Gb, z_GrI, z_Gi, z_GrP, z_Gp, z_Gq, z_Gf, z_GrO, z_Gs, z_Br]
  exact Du.GrP.m1
end
section
variable {kl : KL'} {ki : KI'} {k : KD} {x : KX} {s : S} {f g h : DE} {ga : DA} {tb tc : DB} {d a b : D} {i j n : Nat} {p : List Cell → D → Po} {p2 : List Cell → D → D → Po} {kA : KL'} {kB : Bool → S → Prop} {m : Fn} {c0 : Nat}
theorem n_var : ∀ (e : s.sl[i]? = some (some d)) (h : k d s), Gn (dVar i) s kl ki k x := by
  simp only [z_Gr, z_Gn, z_Ge, z_GrA, z_Ga, z_GrB, z_Gb, z_GrI, z_Gi, z_GrP, z_Gp, z_Gq, z_Gf, z_GrO, z_Gs, z_Br]
  exact Du.n_var
theorem e_of_n : ∀ (h : Gn f s noL noI k x), Ge f s k x := by
  simp only [z_Gr, z_Gn, z_Ge, z_GrA, z_Ga, z_GrB, z_Gb, z_GrI, z_Gi, z_GrP, z_Gp, z_Gq, z_Gf, z_GrO, z_Gs, z_Br]
  exact Du.e_of_n
theorem n_c : ∀ (h : k d s), Gn (dC d) s kl ki k x := by
  simp only [z_Gr, z_Gn, z_Ge, z_GrA, z_Ga, z_GrB, z_Gb, z_GrI, z_Gi, z_GrP, z_Gp, z_Gq, z_Gf, z_GrO, z_Gs, z_Br]
  exact Du.n_c
theorem n_fz : ∀ (h : Gn f s (fun xs s => k (.lst xs) s) (fun c fs s => k (.obj c fs) s) k x), Gn (dFz f) s kl ki k x := by
  simp only [z_Gr, z_Gn, z_Ge, z_GrA, z_Ga, z_GrB, z_Gb, z_GrI, z_Gi, z_GrP, z_Gp, z_Gq, z_Gf, z_GrO, z_Gs, z_Br]
  exact Du.n_fz
theorem n_ce : ∀ (h : Gn f s (fun xs s => k (.rf s.ce.length) ⟨s.sl, s.ce ++ [.lst xs], s.n0⟩) (fun c fs s => k (.rf s.ce.length) ⟨s.sl, s.ce ++ [.ins c fs], s.n0⟩) k x), Gn (dCe f) s kl ki k x := by
  simp only [z_Gr, z_Gn, z_Ge, z_GrA, z_Ga, z_GrB, z_Gb, z_GrI, z_Gi, z_GrP, z_Gp, z_Gq, z_Gf, z_GrO, z_Gs, z_Br]
  exact Du.n_ce
theorem gr_po : ∀ {po : Po} (h : Gq po s kl k), Gr (poK s po) kl ki k x := by
  simp only [z_Gr, z_Gn, z_Ge, z_GrA, z_Ga, z_GrB, z_Gb, z_GrI, z_Gi, z_GrP, z_Gp, z_Gq, z_Gf, z_GrO, z_Gs, z_Br]
  exact Du.gr_po
theorem n_op : ∀ (h : Ge f s (fun a s => Ge g s (fun b s => Gq (p2 s.ce a b) s kl k) x) x), Gn (dOp p2 f g) s kl ki k x := by
  simp only [z_Gr, z_Gn, z_Ge, z_GrA, z_Ga, z_GrB, z_Gb, z_GrI, z_Gi, z_GrP, z_Gp, z_Gq, z_Gf, z_GrO, z_Gs, z_Br]
  exact Du.n_op
theorem n_un : ∀ (h : Ge f s (fun a s => Gq (p s.ce a) s kl k) x), Gn (dUn p f) s kl ki k x := by
  simp only [z_Gr, z_Gn, z_Ge, z_GrA, z_Ga, z_GrB, z_Gb, z_GrI, z_Gi, z_GrP, z_Gp, z_Gq, z_Gf, z_GrO, z_Gs, z_Br]
  exact Du.n_un
theorem n_bi : ∀ {pb : List Cell → List D → Po} (h : Ga ga s (fun ds s => Gq (pb s.ce ds) s kl k) x), Gn (dBi pb ga) s kl ki k x := by
  simp only [z_Gr, z_Gn, z_Ge, z_GrA, z_Ga, z_GrB, z_Gb, z_GrI, z_Gi, z_GrP, z_Gp, z_Gq, z_Gf, z_GrO, z_Gs, z_Br]
  exact Du.n_bi
theorem n_lst : ∀ (h : Ga ga s (fun ds s => ds.length ≤ 100000 ∧ kl ds s) x), Gn (dLst ga) s kl ki k x := by
  simp only [z_Gr, z_Gn, z_Ge, z_GrA, z_Ga, z_GrB, z_Gb, z_GrI, z_Gi, z_GrP, z_Gp, z_Gq, z_Gf, z_GrO, z_Gs, z_Br]
  exact Du.n_lst
theorem n_tup : ∀ (h : Ga ga s (fun ds s => ds.length ≤ 100000 ∧ k (.tup ds) s) x), Gn (dTup ga) s kl ki k x := by
  simp only [z_Gr, z_Gn, z_Ge, z_GrA, z_Ga, z_GrB, z_Gb, z_GrI, z_Gi, z_GrP, z_Gp, z_Gq, z_Gf, z_GrO, z_Gs, z_Br]
  exact Du.n_tup
theorem a_nil : ∀ (h : kA [] s), Ga aNil s kA x := by
  simp only [z_Gr, z_Gn, z_Ge, z_GrA, z_Ga, z_GrB, z_Gb, z_GrI, z_Gi, z_GrP, z_Gp, z_Gq, z_Gf, z_GrO, z_Gs, z_Br]
  exact Du.a_nil
theorem a_cons : ∀ (h : Ge f s (fun d s => Ga ga s (fun ds s => kA (d :: ds) s) x) x), Ga (aCons f ga) s kA x := by
  simp only [z_Gr, z_Gn, z_Ge, z_GrA, z_Ga, z_GrB, z_Gb, z_GrI, z_Gi, z_GrP, z_Gp, z_Gq, z_Gf, z_GrO, z_Gs, z_Br]
  exact Du.a_cons
theorem b_test : ∀ (h : Ge f s (fun d s => ∃ b, d = .bl b ∧ kB b s) x), Gb (bTest f) s kB x := by
  simp only [z_Gr, z_Gn, z_Ge, z_GrA, z_Ga, z_GrB, z_Gb, z_GrI, z_Gi, z_GrP, z_Gp, z_Gq, z_Gf, z_GrO, z_Gs, z_Br]
  exact Du.b_test
theorem b_tru : ∀ (h : Ge f s (fun d s => ∃ b, truD s.ce d = some b ∧ kB b s) x), Gb (bTru f) s kB x := by
  simp only [z_Gr, z_Gn, z_Ge, z_GrA, z_Ga, z_GrB, z_Gb, z_GrI, z_Gi, z_GrP, z_Gp, z_Gq, z_Gf, z_GrO, z_Gs, z_Br]
  exact Du.b_tru
theorem b_and : ∀ (h : Gb tb s (fun t s => Br t (Gb tc s kB x) (kB false s)) x), Gb (bAnd tb tc) s kB x := by
  simp only [z_Gr, z_Gn, z_Ge, z_GrA, z_Ga, z_GrB, z_Gb, z_GrI, z_Gi, z_GrP, z_Gp, z_Gq, z_Gf, z_GrO, z_Gs, z_Br]
  exact Du.b_and
theorem b_or : ∀ (h : Gb tb s (fun t s => Br t (kB true s) (Gb tc s kB x)) x), Gb (bOr tb tc) s kB x := by
  simp only [z_Gr, z_Gn, z_Ge, z_GrA, z_Ga, z_GrB, z_Gb, z_GrI, z_Gi, z_GrP, z_Gp, z_Gq, z_Gf, z_GrO, z_Gs, z_Br]
  exact Du.b_or
theorem b_not : ∀ (h : Gb tb s (fun t s => kB (!t) s) x), Gb (bNot tb) s kB x := by
  simp only [z_Gr, z_Gn, z_Ge, z_GrA, z_Ga, z_GrB, z_Gb, z_GrI, z_Gi, z_GrP, z_Gp, z_Gq, z_Gf, z_GrO, z_Gs, z_Br]
  exact Du.b_not
theorem b_yes : ∀ (h : kB true s), Gb bYes s kB x := by
  simp only [z_Gr, z_Gn, z_Ge, z_GrA, z_Ga, z_GrB, z_Gb, z_GrI, z_Gi, z_GrP, z_Gp, z_Gq, z_Gf, z_GrO, z_Gs, z_Br]
  exact Du.b_yes
theorem n_if : ∀ (h : Gb tb s (fun t s => Br t (Gn f s kl ki k x) (Gn g s kl ki k x)) x), Gn (dIf tb f g) s kl ki k x := by
  simp only [z_Gr, z_Gn, z_Ge, z_GrA, z_Ga, z_GrB, z_Gb, z_GrI, z_Gi, z_GrP, z_Gp, z_Gq, z_Gf, z_GrO, z_Gs, z_Br]
  exact Du.n_if
theorem n_and : ∀ (h : Ge f s (fun d s => ∃ t, d = .bl t ∧ Br t (Gn g s kl ki k x) (k (.bl false) s)) x), Gn (dAnd f g) s kl ki k x := by
  simp only [z_Gr, z_Gn, z_Ge, z_GrA, z_Ga, z_GrB, z_Gb, z_GrI, z_Gi, z_GrP, z_Gp, z_Gq, z_Gf, z_GrO, z_Gs, z_Br]
  exact Du.n_and
theorem n_or : ∀ (h : Ge f s (fun d s => ∃ t, d = .bl t ∧ Br t (k (.bl true) s) (Gn g s kl ki k x)) x), Gn (dOr f g) s kl ki k x := by
  simp only [z_Gr, z_Gn, z_Ge, z_GrA, z_Ga, z_GrB, z_Gb, z_GrI, z_Gi, z_GrP, z_Gp, z_Gq, z_Gf, z_GrO, z_Gs, z_Br]
  exact Du.n_or
theorem n_not : ∀ (h : Ge f s (fun d s => ∃ t, d = .bl t ∧ k (.bl !t) s) x), Gn (dNot f) s kl ki k x := by
  simp only [z_Gr, z_Gn, z_Ge, z_GrA, z_Ga, z_GrB, z_Gb, z_GrI, z_Gi, z_GrP, z_Gp, z_Gq, z_Gf, z_GrO, z_Gs, z_Br]
  exact Du.n_not
theorem p_none' : ∀ {kP : Option Int → S → Prop} (h : kP none s), Gp ptNone s kP x := by
  simp only [z_Gr, z_Gn, z_Ge, z_GrA, z_Ga, z_GrB, z_Gb, z_GrI, z_Gi, z_GrP, z_Gp, z_Gq, z_Gf, z_GrO, z_Gs, z_Br]
  exact Du.p_none'
theorem p_some' : ∀ {kP : Option Int → S → Prop} (h : Ge f s (fun d s => ∃ i, d = .int i ∧ kP (some i) s) x), Gp (ptSome f) s kP x := by
  simp only [z_Gr, z_Gn, z_Ge, z_GrA, z_Ga, z_GrB, z_Gb, z_GrI, z_Gi, z_GrP, z_Gp, z_Gq, z_Gf, z_GrO, z_Gs, z_Br]
  exact Du.p_some'
theorem n_slice : ∀ {l u : DP} (h : Ge f s (fun d s => Gp l s (fun lo s => Gp u s (fun hi s => ∃ xs, look s.ce d = some xs ∧ kl (cutD xs lo hi) s) x) x) x), Gn (dSlice f l u) s kl ki k x := by
  simp only [z_Gr, z_Gn, z_Ge, z_GrA, z_Ga, z_GrB, z_Gb, z_GrI, z_Gi, z_GrP, z_Gp, z_Gq, z_Gf, z_GrO, z_Gs, z_Br]
  exact Du.n_slice
theorem gr_fr : ∀ {r : FR} (h : Gf r s kl ki k x), Gr (frK s r) kl ki k x := by
  simp only [z_Gr, z_Gn, z_Ge, z_GrA, z_Ga, z_GrB, z_Gb, z_GrI, z_Gi, z_GrP, z_Gp, z_Gq, z_Gf, z_GrO, z_Gs, z_Br]
  exact Du.gr_fr
theorem n_call : ∀ (h : Ga ga s (fun ds s => ds.length = n ∧ Gf (m ds s.ce) s kl ki k x) x), Gn (dCall n m ga) s kl ki k x := by
  simp only [z_Gr, z_Gn, z_Ge, z_GrA, z_Ga, z_GrB, z_Gb, z_GrI, z_Gi, z_GrP, z_Gp, z_Gq, z_Gf, z_GrO, z_Gs, z_Br]
  exact Du.n_call
theorem gr_own : ∀ {ds : List D} {o : Option (List (Str × D))} {fs : List (Str × D)} (e : o = some fs) (hn : ds.length = n) (h : Gf (m ds s.ce) s kl ki k x), Gr (ownK c0 n m s ds o) kl ki k x := by
  simp only [z_Gr, z_Gn, z_Ge, z_GrA, z_Ga, z_GrB, z_Gb, z_GrI, z_Gi, z_GrP, z_Gp, z_Gq, z_Gf, z_GrO, z_Gs, z_Br]
  exact Du.gr_own
theorem n_own1 : ∀ (h : Ge f s (fun d s => ∃ fs, instF c0 s.ce d = some fs ∧ n = 1 ∧ Gf (m [d] s.ce) s kl ki k x) x), Gn (dOwn1 c0 n m f) s kl ki k x := by
  simp only [z_Gr, z_Gn, z_Ge, z_GrA, z_Ga, z_GrB, z_Gb, z_GrI, z_Gi, z_GrP, z_Gp, z_Gq, z_Gf, z_GrO, z_Gs, z_Br]
  exact Du.n_own1
theorem n_eqO : ∀ (h : Ge f s (fun d s => Ge g s (fun w s => ∃ fs fs', instF c0 s.ce d = some fs ∧ instF c0 s.ce w = some fs' ∧ n = 2 ∧ Gf (m [d, w] s.ce) s kl ki k x) x) x), Gn (dEqO c0 n m f g) s kl ki k x := by
  simp only [z_Gr, z_Gn, z_Ge, z_GrA, z_Ga, z_GrB, z_Gb, z_GrI, z_Gi, z_GrP, z_Gp, z_Gq, z_Gf, z_GrO, z_Gs, z_Br]
  exact Du.n_eqO
theorem n_prop : ∀ (h : Ge f s (fun d s => ∃ fs, instF c0 s.ce d = some fs ∧ n = 1 ∧ Gf (m [d] s.ce) s kl ki k (fun _ _ => False)) x), Gn (dProp c0 n m f) s kl ki k x := by
  simp only [z_Gr, z_Gn, z_Ge, z_GrA, z_Ga, z_GrB, z_Gb, z_GrI, z_Gi, z_GrP, z_Gp, z_Gq, z_Gf, z_GrO, z_Gs, z_Br]
  exact Du.n_prop
theorem n_meth : ∀ {nm : Str} (h : Ge f s (fun d s => ∃ fs, instF c0 s.ce d = some fs ∧ (fs.lookup nm).isNone = true ∧ Ga ga s (fun ds s => ds.length + 1 = n ∧ Gf (m (d :: ds) s.ce) s kl ki k x) x) x), Gn (dMeth c0 n nm m f ga) s kl ki k x := by
  simp only [z_Gr, z_Gn, z_Ge, z_GrA, z_Ga, z_GrB, z_Gb, z_GrI, z_Gi, z_GrP, z_Gp, z_Gq, z_Gf, z_GrO, z_Gs, z_Br]
  exact Du.n_meth
theorem n_callO : ∀ (h : Ge f s (fun d s => (instF c0 s.ce d).isSome = true ∧ Ga ga s (fun ds s => ∃ fs, instF c0 s.ce d = some fs ∧ ds.length + 1 = n ∧ Gf (m (d :: ds) s.ce) s kl ki k x) x) x), Gn (dCallO c0 n m f ga) s kl ki k x := by
  simp only [z_Gr, z_Gn, z_Ge, z_GrA, z_Ga, z_GrB, z_Gb, z_GrI, z_Gi, z_GrP, z_Gp, z_Gq, z_Gf, z_GrO, z_Gs, z_Br]
  exact Du.n_callO
theorem n_make : ∀ {mk : MkFn} (h : Ga ga s (fun ds s => ds.length + 1 = n ∧ Gr (fiK c0 s (mk ds s.ce)) kl ki k x) x), Gn (dMake c0 n mk ga) s kl ki k x := by
  simp only [z_Gr, z_Gn, z_Ge, z_GrA, z_Ga, z_GrB, z_Gb, z_GrI, z_Gi, z_GrP, z_Gp, z_Gq, z_Gf, z_GrO, z_Gs, z_Br]
  exact Du.n_make
theorem gr_mk : ∀ {r : FI} {fs : List (Str × D)} (e : r = .ok fs) (h : ki c0 fs s), Gr (fiK c0 s r) kl ki k x := by
  simp only [z_Gr, z_Gn, z_Ge, z_GrA, z_Ga, z_GrB, z_Gb, z_GrI, z_Gi, z_GrP, z_Gp, z_Gq, z_Gf, z_GrO, z_Gs, z_Br]
  exact Du.gr_mk
theorem gr_mk_er : ∀ {r : FI} {e : Xc} (q : r = .er e) (h : x e s), Gr (fiK c0 s r) kl ki k x := by
  simp only [z_Gr, z_Gn, z_Ge, z_GrA, z_Ga, z_GrB, z_Gb, z_GrI, z_Gi, z_GrP, z_Gp, z_Gq, z_Gf, z_GrO, z_Gs, z_Br]
  exact Du.gr_mk_er
theorem n_callK : ∀ {nk : Nat} {ix : List Nat} (h : Ga ga s (fun ds s => ds.length = nk ∧ (pick ix ds).length = n ∧ Gf (m (pick ix ds) s.ce) s kl ki k x) x), Gn (dCallK n nk m ix ga) s kl ki k x := by
  simp only [z_Gr, z_Gn, z_Ge, z_GrA, z_Ga, z_GrB, z_Gb, z_GrI, z_Gi, z_GrP, z_Gp, z_Gq, z_Gf, z_GrO, z_Gs, z_Br]
  exact Du.n_callK
theorem n_methK : ∀ {nk : Nat} {nm : Str} {ix : List Nat} (h : Ge f s (fun d s => ∃ fs, instF c0 s.ce d = some fs ∧ (fs.lookup nm).isNone = true ∧ Ga ga s (fun ds s => ds.length = nk ∧ (pick ix (d :: ds)).length = n ∧ Gf (m (pick ix (d :: ds)) s.ce) s kl ki k x) x) x), Gn (dMethK c0 n nk nm m ix f ga) s kl ki k x := by
  simp only [z_Gr, z_Gn, z_Ge, z_GrA, z_Ga, z_GrB, z_Gb, z_GrI, z_Gi, z_GrP, z_Gp, z_Gq, z_Gf, z_GrO, z_Gs, z_Br]
  exact Du.n_methK
theorem n_inO : ∀ (h : Ge f s (fun d s => Ge g s (fun w s => ∃ fs, instF c0 s.ce w = some fs ∧ Gf (m [w, d] s.ce) s noL noI (fun r s => ∃ t, r = .bl t ∧ k (.bl t) s) x) x) x), Gn (dInO c0 m f g) s kl ki k x := by
  simp only [z_Gr, z_Gn, z_Ge, z_GrA, z_Ga, z_GrB, z_Gb, z_GrI, z_Gi, z_GrP, z_Gp, z_Gq, z_Gf, z_GrO, z_Gs, z_Br]
  exact Du.n_inO
theorem n_notInO : ∀ (h : Ge f s (fun d s => Ge g s (fun w s => ∃ fs, instF c0 s.ce w = some fs ∧ Gf (m [w, d] s.ce) s noL noI (fun r s => ∃ t, r = .bl t ∧ k (.bl !t) s) x) x) x), Gn (dNotInO c0 m f g) s kl ki k x := by
  simp only [z_Gr, z_Gn, z_Ge, z_GrA, z_Ga, z_GrB, z_Gb, z_GrI, z_Gi, z_GrP, z_Gp, z_Gq, z_Gf, z_GrO, z_Gs, z_Br]
  exact Du.n_notInO
theorem n_lenO : ∀ (h : Ge f s (fun d s => ∃ fs, instF c0 s.ce d = some fs ∧ Gf (m [d] s.ce) s noL noI (fun r s => ∃ i, r = .int i ∧ 0 ≤ i ∧ i < 1000000 ∧ k (.int i) s) x) x), Gn (dLenO c0 m f) s kl ki k x := by
  simp only [z_Gr, z_Gn, z_Ge, z_GrA, z_Ga, z_GrB, z_Gb, z_GrI, z_Gi, z_GrP, z_Gp, z_Gq, z_Gf, z_GrO, z_Gs, z_Br]
  exact Du.n_lenO
@[irreducible] noncomputable def Gm := @Du.Gm
theorem z_Gm : @Gm = @Du.Gm := by
  delta Gm
  rfl
theorem gr_mo : ∀ {mo : Mo} (h : Gm mo s kl k), Gr (moK s mo) kl ki k x := by
  simp only [z_Gr, z_Gn, z_Ge, z_GrA, z_Ga, z_GrB, z_Gb, z_GrI, z_Gi, z_GrP, z_Gp, z_Gq, z_Gf, z_GrO, z_Gs, z_Br, z_Gm]
  exact Du.gr_mo
theorem n_mt : ∀ {lk : List Cell → D → Bool} {mm : List Cell → D → List D → Mo} (h : Ge f s (fun d s => lk s.ce d = true ∧ Ga ga s (fun ds s => Gm (mm s.ce d ds) s kl k) x) x), Gn (dMt lk mm f ga) s kl ki k x := by
  simp only [z_Gr, z_Gn, z_Ge, z_GrA, z_Ga, z_GrB, z_Gb, z_GrI, z_Gi, z_GrP, z_Gp, z_Gq, z_Gf, z_GrO, z_Gs, z_Br, z_Gm]
  exact Du.n_mt
theorem m_app : ∀ {xs : List D} {ce : List Cell} (e : ce[j]? = some (.lst xs)) (hl : xs.length < 100000) (h : k .non ⟨s.sl, s.ce.set j (.lst (xs ++ [d])), s.n0⟩), Gm (mApp ce (.rf j) [d]) s kl k := by
  simp only [z_Gr, z_Gn, z_Ge, z_GrA, z_Ga, z_GrB, z_Gb, z_GrI, z_Gi, z_GrP, z_Gp, z_Gq, z_Gf, z_GrO, z_Gs, z_Br, z_Gm]
  exact Du.m_app
theorem m_ext : ∀ {xs ys : List D} {ce : List Cell} (e : ce[j]? = some (.lst xs)) (hl : xs.length + ys.length ≤ 100000) (h : k .non ⟨s.sl, s.ce.set j (.lst (xs ++ ys)), s.n0⟩), Gm (mExt ce (.rf j) [.lst ys]) s kl k := by
  simp only [z_Gr, z_Gn, z_Ge, z_GrA, z_Ga, z_GrB, z_Gb, z_GrI, z_Gi, z_GrP, z_Gp, z_Gq, z_Gf, z_GrO, z_Gs, z_Br, z_Gm]
  exact Du.m_ext
theorem n_newD : ∀ (h : k (.rf s.ce.length) ⟨s.sl, s.ce ++ [.dic []], s.n0⟩), Gn dNewD s kl ki k x := by
  simp only [z_Gr, z_Gn, z_Ge, z_GrA, z_Ga, z_GrB, z_Gb, z_GrI, z_Gi, z_GrP, z_Gp, z_Gq, z_Gf, z_GrO, z_Gs, z_Br, z_Gm]
  exact Du.n_newD
theorem gr_get : ∀ {kvs : List (Key × D)} {y : D} {ky : Key} {z : D} (e : s.ce[j]? = some (.dic kvs)) (ek : keyD y = some ky) (h : k ((valKD kvs ky).getD z) s), Gr (getK s z (.rf j) y) kl ki k x := by
  simp only [z_Gr, z_Gn, z_Ge, z_GrA, z_Ga, z_GrB, z_Gb, z_GrI, z_Gi, z_GrP, z_Gp, z_Gq, z_Gf, z_GrO, z_Gs, z_Br, z_Gm]
  exact Du.gr_get
theorem n_getD : ∀ {fo fk fx : DE} (h : Ge fo s (fun o s => isDic s.ce o = true ∧ Ge fk s (fun y s => Ge fx s (fun z s => Gr (getK s z o y) kl ki k x) x) x) x), Gn (dGetD fo fk fx) s kl ki k x := by
  simp only [z_Gr, z_Gn, z_Ge, z_GrA, z_Ga, z_GrB, z_Gb, z_GrI, z_Gi, z_GrP, z_Gp, z_Gq, z_Gf, z_GrO, z_Gs, z_Br, z_Gm]
  exact Du.n_getD
theorem n_subD : ∀ {fo fk : DE} (h : Ge fo s (fun o s => Ge fk s (fun y s => Gr (subK s o y) kl ki k x) x) x), Gn (dSubD fo fk) s kl ki k x := by
  simp only [z_Gr, z_Gn, z_Ge, z_GrA, z_Ga, z_GrB, z_Gb, z_GrI, z_Gi, z_GrP, z_Gp, z_Gq, z_Gf, z_GrO, z_Gs, z_Br, z_Gm]
  exact Du.n_subD
theorem gr_sub : ∀ {kvs : List (Key × D)} {y : D} {ky : Key} {z : D} (e : s.ce[j]? = some (.dic kvs)) (ek : keyD y = some ky) (ev : valKD kvs ky = some z) (h : k z s), Gr (subK s (.rf j) y) kl ki k x := by
  simp only [z_Gr, z_Gn, z_Ge, z_GrA, z_Ga, z_GrB, z_Gb, z_GrI, z_Gi, z_GrP, z_Gp, z_Gq, z_Gf, z_GrO, z_Gs, z_Br, z_Gm]
  exact Du.gr_sub
theorem gr_keysT : ∀ {kvs : List (Key × D)} {ks : List D} {v : Nat} (e0 : s.sl[i]? = some (some (.rf v))) (hj : j < s.sl.length) (e : s.ce[v]? = some (.dic kvs)) (ek : truesK kvs = some ks) (hl : kvs.length ≤ 100000) (hn : (kvs.map (·.1)).Nodup) (h : kl ks s), Gn (dKeysT i j) s kl ki k x := by
  simp only [z_Gr, z_Gn, z_Ge, z_GrA, z_Ga, z_GrB, z_Gb, z_GrI, z_Gi, z_GrP, z_Gp, z_Gq, z_Gf, z_GrO, z_Gs, z_Br, z_Gm]
  exact Du.gr_keysT
theorem n_sortSet : ∀ (h : Ge f s (fun d s => ∃ ns : List Int, look s.ce d = some (ns.map .int) ∧ ns.length < 64 ∧ kl ((sset ns).map .int) s) x), Gn (dSortSet f) s kl ki k x := by
  simp only [z_Gr, z_Gn, z_Ge, z_GrA, z_Ga, z_GrB, z_Gb, z_GrI, z_Gi, z_GrP, z_Gp, z_Gq, z_Gf, z_GrO, z_Gs, z_Br, z_Gm]
  exact Du.n_sortSet
theorem n_listRg2 : ∀ (h : Ge f s (fun d s => Ge g s (fun w s => ∃ a b : Int, d = .int a ∧ w = .int b ∧ 0 ≤ a ∧ a ≤ 100000 ∧ 0 ≤ b ∧ b ≤ 100000 ∧ kl (rngD a (b - a).toNat) s) x) x), Gn (dListRg2 f g) s kl ki k x := by
  simp only [z_Gr, z_Gn, z_Ge, z_GrA, z_Ga, z_GrB, z_Gb, z_GrI, z_Gi, z_GrP, z_Gp, z_Gq, z_Gf, z_GrO, z_Gs, z_Br, z_Gm]
  exact Du.n_listRg2
theorem i_L : ∀ (h : Gn f s kA noI (fun d s => ∃ xs, (d = .lst xs ∨ d = .ro xs) ∧ kA xs s) x), Gi (iL f) s kA x := by
  simp only [z_Gr, z_Gn, z_Ge, z_GrA, z_Ga, z_GrB, z_Gb, z_GrI, z_Gi, z_GrP, z_Gp, z_Gq, z_Gf, z_GrO, z_Gs, z_Br, z_Gm]
  exact Du.i_L
theorem i_T : ∀ (h : Ge f s (fun d s => ∃ xs, d = .tup xs ∧ kA xs s) x), Gi (iT f) s kA x := by
  simp only [z_Gr, z_Gn, z_Ge, z_GrA, z_Ga, z_GrB, z_Gb, z_GrI, z_Gi, z_GrP, z_Gp, z_Gq, z_Gf, z_GrO, z_Gs, z_Br, z_Gm]
  exact Du.i_T
theorem i_A : ∀ {kk : List D → Option (List D)} (h : Ga ga s (fun ds s => ∃ xs, kk ds = some xs ∧ kA xs s) x), Gi (iA kk ga) s kA x := by
  simp only [z_Gr, z_Gn, z_Ge, z_GrA, z_Ga, z_GrB, z_Gb, z_GrI, z_Gi, z_GrP, z_Gp, z_Gq, z_Gf, z_GrO, z_Gs, z_Br, z_Gm]
  exact Du.i_A
theorem n_listZip : ∀ (h : Gi (iA zipU ga) s kl x), Gn (dListZip ga) s kl ki k x := by
  simp only [z_Gr, z_Gn, z_Ge, z_GrA, z_Ga, z_GrB, z_Gb, z_GrI, z_Gi, z_GrP, z_Gp, z_Gq, z_Gf, z_GrO, z_Gs, z_Br, z_Gm]
  exact Du.n_listZip
end
section
variable {k : KD} {x : KX} {s s' : S} {f g h : DE} {ga : DA} {tb tc : DB} {d a b : D} {i j l n : Nat} {nx bk ct : KS} {rt : R → Prop} {sa sb : DS}
theorem s_set' : ∀ (h : Ge f s (fun d s => nx ⟨s.sl.set i (some d), s.ce, s.n0⟩) x), Gs (sSet i f) s nx bk ct rt x := by
  simp only [z_Gr, z_Gn, z_Ge, z_GrA, z_Ga, z_GrB, z_Gb, z_GrI, z_Gi, z_GrP, z_Gp, z_Gq, z_Gf, z_GrO, z_Gs, z_Br, z_Gm]
  exact Du.s_set'
theorem s_seq' : ∀ (h : Gs sa s (fun s => Gs sb s nx bk ct rt x) bk ct rt x), Gs (sSeq sa sb) s nx bk ct rt x := by
  simp only [z_Gr, z_Gn, z_Ge, z_GrA, z_Ga, z_GrB, z_Gb, z_GrI, z_Gi, z_GrP, z_Gp, z_Gq, z_Gf, z_GrO, z_Gs, z_Br, z_Gm]
  exact Du.s_seq'
theorem s_next' : ∀ (h : nx s), Gs sNext s nx bk ct rt x := by
  simp only [z_Gr, z_Gn, z_Ge, z_GrA, z_Ga, z_GrB, z_Gb, z_GrI, z_Gi, z_GrP, z_Gp, z_Gq, z_Gf, z_GrO, z_Gs, z_Br, z_Gm]
  exact Du.s_next'
theorem s_brk' : ∀ (h : bk s), Gs sBrk s nx bk ct rt x := by
  simp only [z_Gr, z_Gn, z_Ge, z_GrA, z_Ga, z_GrB, z_Gb, z_GrI, z_Gi, z_GrP, z_Gp, z_Gq, z_Gf, z_GrO, z_Gs, z_Br, z_Gm]
  exact Du.s_brk'
theorem s_cont' : ∀ (h : ct s), Gs sCont s nx bk ct rt x := by
  simp only [z_Gr, z_Gn, z_Ge, z_GrA, z_Ga, z_GrB, z_Gb, z_GrI, z_Gi, z_GrP, z_Gp, z_Gq, z_Gf, z_GrO, z_Gs, z_Br, z_Gm]
  exact Du.s_cont'
theorem s_if' : ∀ (h : Gb tb s (fun t s => Br t (Gs sa s nx bk ct rt x) (Gs sb s nx bk ct rt x)) x), Gs (sIf tb sa sb) s nx bk ct rt x := by
  simp only [z_Gr, z_Gn, z_Ge, z_GrA, z_Ga, z_GrB, z_Gb, z_GrI, z_Gi, z_GrP, z_Gp, z_Gq, z_Gf, z_GrO, z_Gs, z_Br, z_Gm]
  exact Du.s_if'
theorem s_ret' : ∀ (h : Gn f s (fun xs s => rt (.nl xs s)) (fun c fs s => rt (.ni c fs s)) (fun d s => rt (.ok d s)) x), Gs (sRet f) s nx bk ct rt x := by
  simp only [z_Gr, z_Gn, z_Ge, z_GrA, z_Ga, z_GrB, z_Gb, z_GrI, z_Gi, z_GrP, z_Gp, z_Gq, z_Gf, z_GrO, z_Gs, z_Br, z_Gm]
  exact Du.s_ret'
theorem s_drop' : ∀ (h : Gn f s (fun _ s => nx s) (fun _ _ s => nx s) (fun _ s => nx s) x), Gs (sDrop f) s nx bk ct rt x := by
  simp only [z_Gr, z_Gn, z_Ge, z_GrA, z_Ga, z_GrB, z_Gb, z_GrI, z_Gi, z_GrP, z_Gp, z_Gq, z_Gf, z_GrO, z_Gs, z_Br, z_Gm]
  exact Du.s_drop'
theorem s_raise' : ∀ {c : Nat} (h : x ⟨c, []⟩ s), Gs (sRaise c) s nx bk ct rt x := by
  simp only [z_Gr, z_Gn, z_Ge, z_GrA, z_Ga, z_GrB, z_Gb, z_GrI, z_Gi, z_GrP, z_Gp, z_Gq, z_Gf, z_GrO, z_Gs, z_Br, z_Gm]
  exact Du.s_raise'
theorem s_asg' : ∀ {t : DT} (h : Ge f s (fun d s => ∃ s', t d s = some s' ∧ nx s') x), Gs (sAsg t f) s nx bk ct rt x := by
  simp only [z_Gr, z_Gn, z_Ge, z_GrA, z_Ga, z_GrB, z_Gb, z_GrI, z_Gi, z_GrP, z_Gp, z_Gq, z_Gf, z_GrO, z_Gs, z_Br, z_Gm]
  exact Du.s_asg'
theorem s_par2' : ∀ (h : Ga ga s (fun ds s => ∃ a b, ds = [a, b] ∧ nx ⟨(s.sl.set i (some a)).set j (some b), s.ce, s.n0⟩) x), Gs (sPar2 i j ga) s nx bk ct rt x := by
  simp only [z_Gr, z_Gn, z_Ge, z_GrA, z_Ga, z_GrB, z_Gb, z_GrI, z_Gi, z_GrP, z_Gp, z_Gq, z_Gf, z_GrO, z_Gs, z_Br, z_Gm]
  exact Du.s_par2'
theorem s_par3' : ∀ (h : Ga ga s (fun ds s => ∃ a b c, ds = [a, b, c] ∧ nx ⟨((s.sl.set i (some a)).set j (some b)).set l (some c), s.ce, s.n0⟩) x), Gs (sPar3 i j l ga) s nx bk ct rt x := by
  simp only [z_Gr, z_Gn, z_Ge, z_GrA, z_Ga, z_GrB, z_Gb, z_GrI, z_Gi, z_GrP, z_Gp, z_Gq, z_Gf, z_GrO, z_Gs, z_Br, z_Gm]
  exact Du.s_par3'
theorem s_setF' : ∀ {c0 : Nat} {nm : Str} {fo fv : DE} (h : Ge fv s (fun d s => Ge fo s (fun o s => ∃ j fs, o = .rf j ∧ s.ce[j]? = some (.ins c0 fs) ∧ fs.length < 900 ∧ nx ⟨s.sl, s.ce.set j (.ins c0 (putFD nm d fs)), s.n0⟩) x) x), Gs (sSetF c0 nm fo fv) s nx bk ct rt x := by
  simp only [z_Gr, z_Gn, z_Ge, z_GrA, z_Ga, z_GrB, z_Gb, z_GrI, z_Gi, z_GrP, z_Gp, z_Gq, z_Gf, z_GrO, z_Gs, z_Br, z_Gm]
  exact Du.s_setF'
theorem s_setI' : ∀ {fo fi fv : DE} (h : Ge fv s (fun d s => Ge fo s (fun o s => Ge fi s (fun ix s => ∃ j xs i n, o = .rf j ∧ ix = .int i ∧ s.ce[j]? = some (.lst xs) ∧ ixN xs.length i = some n ∧ nx ⟨s.sl, s.ce.set j (.lst (xs.set n d)), s.n0⟩) x) x) x), Gs (sSetI fo fi fv) s nx bk ct rt x := by
  simp only [z_Gr, z_Gn, z_Ge, z_GrA, z_Ga, z_GrB, z_Gb, z_GrI, z_Gi, z_GrP, z_Gp, z_Gq, z_Gf, z_GrO, z_Gs, z_Br, z_Gm]
  exact Du.s_setI'
theorem s_putD' : ∀ {fo fk fv : DE} (h : Ge fv s (fun d s => Ge fo s (fun o s => Ge fk s (fun y s => ∃ j kvs ky, o = .rf j ∧ s.ce[j]? = some (.dic kvs) ∧ keyD y = some ky ∧ kvs.length < 100000 ∧ nx ⟨s.sl, s.ce.set j (.dic (putKD kvs ky d)), s.n0⟩) x) x) x), Gs (sPutD fo fk fv) s nx bk ct rt x := by
  simp only [z_Gr, z_Gn, z_Ge, z_GrA, z_Ga, z_GrB, z_Gb, z_GrI, z_Gi, z_GrP, z_Gp, z_Gq, z_Gf, z_GrO, z_Gs, z_Br, z_Gm]
  exact Du.s_putD'
theorem s_aug' : ∀ {kk : Int → Int → Int} (h : ∃ u, s.sl[i]? = some (some (.int u)) ∧ Ge f s (fun d s => ∃ v, d = .int v ∧ nx ⟨s.sl.set i (some (.int (kk u v))), s.ce, s.n0⟩) x), Gs (sAug i kk f) s nx bk ct rt x := by
  simp only [z_Gr, z_Gn, z_Ge, z_GrA, z_Ga, z_GrB, z_Gb, z_GrI, z_Gi, z_GrP, z_Gp, z_Gq, z_Gf, z_GrO, z_Gs, z_Br, z_Gm]
  exact Du.s_aug'
theorem s_for' : ∀ {it : DI} {t : DT} {body : DS} (h : Gi it s (fun xs s => ∃ I : Nat → S → Prop, I 0 s ∧ (∀ j d s, xs[j]? = some d → I j s → ∃ s1, t d s = some s1 ∧ Gs body s1 (I (j + 1)) nx (I (j + 1)) rt x) ∧ ∀ s, I xs.length s → nx s) x), Gs (sFor it t body) s nx bk ct rt x := by
  simp only [z_Gr, z_Gn, z_Ge, z_GrA, z_Ga, z_GrB, z_Gb, z_GrI, z_Gi, z_GrP, z_Gp, z_Gq, z_Gf, z_GrO, z_Gs, z_Br, z_Gm]
  exact Du.s_for'
end
section
variable {kl : KL'} {ki : KI'} {k : KD} {x : KX} {s : S} {f : DE} {tb : DB} {t : DT} {vs : List Nat} {gd : S → Bool} {c : DB}
end
end Dv
namespace Dv
open PySem PySem.Spec PyProof.Rows L2
section
open Classical
@[irreducible] noncomputable def Run := @Du.Run
theorem z_Run : @Run = @Du.Run := by
  delta Run
  rfl
theorem does_run : ∀ (n : Nat) (b : DS), Does n b (Run n b) := by
  simp only [z_Gr, z_Gn, z_Ge, z_GrA, z_Ga, z_GrB, z_Gb, z_GrI, z_Gi, z_GrP, z_Gp, z_Gq, z_Gf, z_GrO, z_Gs, z_Br, z_Gm, z_Run]
  exact Du.does_run
@[irreducible] noncomputable def Ret := @Du.Ret
theorem z_Ret : @Ret = @Du.Ret := by
  delta Ret
  rfl
theorem fin_go : ∀ {ce : List Cell} {Q : FR → Prop} {o : O} (h : GrO o (fun s => Ret ce Q (.ok .non s)) (fun _ => False) (fun _ => False) (Ret ce Q) (fun e s => Ret ce Q (.er e s))), Q (fin ce o) := by
  simp only [z_Gr, z_Gn, z_Ge, z_GrA, z_Ga, z_GrB, z_Gb, z_GrI, z_Gi, z_GrP, z_Gp, z_Gq, z_Gf, z_GrO, z_Gs, z_Br, z_Gm, z_Run, z_Ret]
  exact Du.fin_go
end
theorem run_go : ∀ {n : Nat} {b : DS} {ds : List D} {ce : List Cell} {Q : FR → Prop} (hl : ds.length ≤ n) (h : Gs b (initS n ds ce) (fun s => Ret ce Q (.ok .non s)) (fun _ => False) (fun _ => False) (Ret ce Q) (fun e s => Ret ce Q (.er e s))), Q (Run n b ds ce) := by
  simp only [z_Gr, z_Gn, z_Ge, z_GrA, z_Ga, z_GrB, z_Gb, z_GrI, z_Gi, z_GrP, z_Gp, z_Gq, z_Gf, z_GrO, z_Gs, z_Br, z_Gm, z_Run, z_Ret]
  exact Du.run_go
@[irreducible] noncomputable def Fs := @Du.Fs
theorem z_Fs : @Fs = @Du.Fs := by
  delta Fs
  rfl
section
variable {ce ce' own : List Cell} {sl : List (Option D)} {n0 : Nat} {Q : FR → Prop} {d : D} {xs : List D} {c : Nat} {fs : List (Str × D)} {e : Xc} {r : FR} {P : (FR → Prop) → Prop}
variable {kl : KL'} {ki : KI'} {k : KD} {x : KX}
theorem gf_use : ∀ {s : S} (h : Fs r P) (q : P fun r => Gf r s kl ki k x), Gf r s kl ki k x := by
  simp only [z_Gr, z_Gn, z_Ge, z_GrA, z_Ga, z_GrB, z_Gb, z_GrI, z_Gi, z_GrP, z_Gp, z_Gq, z_Gf, z_GrO, z_Gs, z_Br, z_Gm, z_Run, z_Ret, z_Fs]
  exact Du.gf_use
theorem gf_ok : ∀ (h : k d ⟨sl, ce', n0⟩), Gf (.ok d ce') ⟨sl, ce, n0⟩ kl ki k x := by
  simp only [z_Gr, z_Gn, z_Ge, z_GrA, z_Ga, z_GrB, z_Gb, z_GrI, z_Gi, z_GrP, z_Gp, z_Gq, z_Gf, z_GrO, z_Gs, z_Br, z_Gm, z_Run, z_Ret, z_Fs]
  exact Du.gf_ok
theorem gf_nl : ∀ (h : kl xs ⟨sl, ce', n0⟩), Gf (.nl xs ce') ⟨sl, ce, n0⟩ kl ki k x := by
  simp only [z_Gr, z_Gn, z_Ge, z_GrA, z_Ga, z_GrB, z_Gb, z_GrI, z_Gi, z_GrP, z_Gp, z_Gq, z_Gf, z_GrO, z_Gs, z_Br, z_Gm, z_Run, z_Ret, z_Fs]
  exact Du.gf_nl
theorem gf_ni : ∀ (h : ki c fs ⟨sl, ce', n0⟩), Gf (.ni c fs ce') ⟨sl, ce, n0⟩ kl ki k x := by
  simp only [z_Gr, z_Gn, z_Ge, z_GrA, z_Ga, z_GrB, z_Gb, z_GrI, z_Gi, z_GrP, z_Gp, z_Gq, z_Gf, z_GrO, z_Gs, z_Br, z_Gm, z_Run, z_Ret, z_Fs]
  exact Du.gf_ni
theorem gf_er : ∀ (h : x e ⟨sl, ce', n0⟩), Gf (.er e ce') ⟨sl, ce, n0⟩ kl ki k x := by
  simp only [z_Gr, z_Gn, z_Ge, z_GrA, z_Ga, z_GrB, z_Gb, z_GrI, z_Gi, z_GrP, z_Gp, z_Gq, z_Gf, z_GrO, z_Gs, z_Br, z_Gm, z_Run, z_Ret, z_Fs]
  exact Du.gf_er
theorem gf_eq : ∀ {r r' : FR} {s : S} (e : r = r') (h : Gf r' s kl ki k x), Gf r s kl ki k x := by
  simp only [z_Gr, z_Gn, z_Ge, z_GrA, z_Ga, z_GrB, z_Gb, z_GrI, z_Gi, z_GrP, z_Gp, z_Gq, z_Gf, z_GrO, z_Gs, z_Br, z_Gm, z_Run, z_Ret, z_Fs]
  exact Du.gf_eq
theorem fs_eq : ∀ (e : r = .ok d ce'), Fs r fun Q => Q (.ok d ce') := by
  simp only [z_Gr, z_Gn, z_Ge, z_GrA, z_Ga, z_GrB, z_Gb, z_GrI, z_Gi, z_GrP, z_Gp, z_Gq, z_Gf, z_GrO, z_Gs, z_Br, z_Gm, z_Run, z_Ret, z_Fs]
  exact Du.fs_eq
theorem ret_ok : ∀ (t : Tail ce ce' ⟨sl, own, n0⟩) (hl : low ce.length d = true) (q : Q (.ok d ce')), Ret ce Q (.ok d ⟨sl, own, n0⟩) := by
  simp only [z_Gr, z_Gn, z_Ge, z_GrA, z_Ga, z_GrB, z_Gb, z_GrI, z_Gi, z_GrP, z_Gp, z_Gq, z_Gf, z_GrO, z_Gs, z_Br, z_Gm, z_Run, z_Ret, z_Fs]
  exact Du.ret_ok
theorem ret_nl : ∀ (t : Tail ce ce' ⟨sl, own, n0⟩) (hl : lowL ce.length xs = true) (q : Q (.nl xs ce')), Ret ce Q (.nl xs ⟨sl, own, n0⟩) := by
  simp only [z_Gr, z_Gn, z_Ge, z_GrA, z_Ga, z_GrB, z_Gb, z_GrI, z_Gi, z_GrP, z_Gp, z_Gq, z_Gf, z_GrO, z_Gs, z_Br, z_Gm, z_Run, z_Ret, z_Fs]
  exact Du.ret_nl
theorem ret_ni : ∀ (t : Tail ce ce' ⟨sl, own, n0⟩) (hl : lowF ce.length fs = true) (q : Q (.ni c fs ce')), Ret ce Q (.ni c fs ⟨sl, own, n0⟩) := by
  simp only [z_Gr, z_Gn, z_Ge, z_GrA, z_Ga, z_GrB, z_Gb, z_GrI, z_Gi, z_GrP, z_Gp, z_Gq, z_Gf, z_GrO, z_Gs, z_Br, z_Gm, z_Run, z_Ret, z_Fs]
  exact Du.ret_ni
theorem ret_okX : ∀ (hl : low ce.length d = false) (q : Q (.ok d own)), Ret ce Q (.ok d ⟨sl, own, n0⟩) := by
  simp only [z_Gr, z_Gn, z_Ge, z_GrA, z_Ga, z_GrB, z_Gb, z_GrI, z_Gi, z_GrP, z_Gp, z_Gq, z_Gf, z_GrO, z_Gs, z_Br, z_Gm, z_Run, z_Ret, z_Fs]
  exact Du.ret_okX
theorem ret_nlX : ∀ (hl : lowL ce.length xs = false) (q : Q (.nl xs own)), Ret ce Q (.nl xs ⟨sl, own, n0⟩) := by
  simp only [z_Gr, z_Gn, z_Ge, z_GrA, z_Ga, z_GrB, z_Gb, z_GrI, z_Gi, z_GrP, z_Gp, z_Gq, z_Gf, z_GrO, z_Gs, z_Br, z_Gm, z_Run, z_Ret, z_Fs]
  exact Du.ret_nlX
theorem ret_er : ∀ (t : Tail ce ce' ⟨sl, own, n0⟩) (q : Q (.er ⟨c, []⟩ ce')), Ret ce Q (.er ⟨c, []⟩ ⟨sl, own, n0⟩) := by
  simp only [z_Gr, z_Gn, z_Ge, z_GrA, z_Ga, z_GrB, z_Gb, z_GrI, z_Gi, z_GrP, z_Gp, z_Gq, z_Gf, z_GrO, z_Gs, z_Br, z_Gm, z_Run, z_Ret, z_Fs]
  exact Du.ret_er
end
section
variable {k : KD} {x : KX} {sl sl' sl'' sl3 : List (Option D)} {ce : List Cell} {n0 : Nat} {f : DE} {ga : DA} {i j l : Nat} {nx bk ct : KS} {rt : R → Prop}
@[irreducible] noncomputable def SetK := @Du.SetK
theorem z_SetK : @SetK = @Du.SetK := by
  delta SetK
  rfl
theorem setk : ∀ {d : D} [h : SetN sl i (some d) sl'] (q : nx ⟨sl', ce, n0⟩), SetK i d ⟨sl, ce, n0⟩ nx := by
  simp only [z_Gr, z_Gn, z_Ge, z_GrA, z_Ga, z_GrB, z_Gb, z_GrI, z_Gi, z_GrP, z_Gp, z_Gq, z_Gf, z_GrO, z_Gs, z_Br, z_Gm, z_Run, z_Ret, z_Fs, z_SetK]
  exact Du.setk
theorem g_set : ∀ {s : S} (h : Ge f s (fun d s => SetK i d s nx) x), Gs (sSet i f) s nx bk ct rt x := by
  simp only [z_Gr, z_Gn, z_Ge, z_GrA, z_Ga, z_GrB, z_Gb, z_GrI, z_Gi, z_GrP, z_Gp, z_Gq, z_Gf, z_GrO, z_Gs, z_Br, z_Gm, z_Run, z_Ret, z_Fs, z_SetK]
  exact Du.g_set
theorem g_par2 : ∀ {s : S} (h : Ga ga s (fun ds s => ∃ a b, ds = [a, b] ∧ SetK i a s fun s => SetK j b s nx) x), Gs (sPar2 i j ga) s nx bk ct rt x := by
  simp only [z_Gr, z_Gn, z_Ge, z_GrA, z_Ga, z_GrB, z_Gb, z_GrI, z_Gi, z_GrP, z_Gp, z_Gq, z_Gf, z_GrO, z_Gs, z_Br, z_Gm, z_Run, z_Ret, z_Fs, z_SetK]
  exact Du.g_par2
theorem g_par3 : ∀ {s : S} (h : Ga ga s (fun ds s => ∃ a b c, ds = [a, b, c] ∧ SetK i a s fun s => SetK j b s fun s => SetK l c s nx) x), Gs (sPar3 i j l ga) s nx bk ct rt x := by
  simp only [z_Gr, z_Gn, z_Ge, z_GrA, z_Ga, z_GrB, z_Gb, z_GrI, z_Gi, z_GrP, z_Gp, z_Gq, z_Gf, z_GrO, z_Gs, z_Br, z_Gm, z_Run, z_Ret, z_Fs, z_SetK]
  exact Du.g_par3
@[irreducible] noncomputable def TgK := @Du.TgK
theorem z_TgK : @TgK = @Du.TgK := by
  delta TgK
  rfl
theorem tg_name : ∀ {d : D} {s : S} (h : SetK i d s nx), TgK (tgN i) d s nx := by
  simp only [z_Gr, z_Gn, z_Ge, z_GrA, z_Ga, z_GrB, z_Gb, z_GrI, z_Gi, z_GrP, z_Gp, z_Gq, z_Gf, z_GrO, z_Gs, z_Br, z_Gm, z_Run, z_Ret, z_Fs, z_SetK, z_TgK]
  exact Du.tg_name
theorem tg_pair : ∀ {t1 t2 : DT} {d1 d2 : D} {s : S} (h : TgK t1 d1 s fun s => TgK t2 d2 s nx), TgK (tgT [t1, t2]) (.tup [d1, d2]) s nx := by
  simp only [z_Gr, z_Gn, z_Ge, z_GrA, z_Ga, z_GrB, z_Gb, z_GrI, z_Gi, z_GrP, z_Gp, z_Gq, z_Gf, z_GrO, z_Gs, z_Br, z_Gm, z_Run, z_Ret, z_Fs, z_SetK, z_TgK]
  exact Du.tg_pair
theorem tg_three : ∀ {t1 t2 t3 : DT} {d1 d2 d3 : D} {s : S} (h : TgK t1 d1 s fun s => TgK t2 d2 s fun s => TgK t3 d3 s nx), TgK (tgT [t1, t2, t3]) (.tup [d1, d2, d3]) s nx := by
  simp only [z_Gr, z_Gn, z_Ge, z_GrA, z_Ga, z_GrB, z_Gb, z_GrI, z_Gi, z_GrP, z_Gp, z_Gq, z_Gf, z_GrO, z_Gs, z_Br, z_Gm, z_Run, z_Ret, z_Fs, z_SetK, z_TgK]
  exact Du.tg_three
theorem g_asg : ∀ {s : S} {t : DT} (h : Ge f s (fun d s => TgK t d s nx) x), Gs (sAsg t f) s nx bk ct rt x := by
  simp only [z_Gr, z_Gn, z_Ge, z_GrA, z_Ga, z_GrB, z_Gb, z_GrI, z_Gi, z_GrP, z_Gp, z_Gq, z_Gf, z_GrO, z_Gs, z_Br, z_Gm, z_Run, z_Ret, z_Fs, z_SetK, z_TgK]
  exact Du.g_asg
theorem g_aug : ∀ {kk : Int → Int → Int} {u : Int} (e : sl[i]? = some (some (.int u))) (h : Ge f ⟨sl, ce, n0⟩ (fun d s => ∃ v, d = .int v ∧ SetK i (.int (kk u v)) s nx) x), Gs (sAug i kk f) ⟨sl, ce, n0⟩ nx bk ct rt x := by
  simp only [z_Gr, z_Gn, z_Ge, z_GrA, z_Ga, z_GrB, z_Gb, z_GrI, z_Gi, z_GrP, z_Gp, z_Gq, z_Gf, z_GrO, z_Gs, z_Br, z_Gm, z_Run, z_Ret, z_Fs, z_SetK, z_TgK]
  exact Du.g_aug
theorem g_for : ∀ {it : DI} {t : DT} {body : DS} {s : S} (h : Gi it s (fun xs s => ∃ I : Nat → S → Prop, I 0 s ∧ (∀ j d s, xs[j]? = some d → I j s → TgK t d s fun s => Gs body s (I (j + 1)) nx (I (j + 1)) rt x) ∧ ∀ s, I xs.length s → nx s) x), Gs (sFor it t body) s nx bk ct rt x := by
  simp only [z_Gr, z_Gn, z_Ge, z_GrA, z_Ga, z_GrB, z_Gb, z_GrI, z_Gi, z_GrP, z_Gp, z_Gq, z_Gf, z_GrO, z_Gs, z_Br, z_Gm, z_Run, z_Ret, z_Fs, z_SetK, z_TgK]
  exact Du.g_for
@[irreducible] noncomputable def CompK := @Du.CompK
theorem z_CompK : @CompK = @Du.CompK := by
  delta CompK
  rfl
theorem comp_k : ∀ {t : DT} {vs : List Nat} {c : DB} {xs : List D} {s : S} {kl : KL'} {ki : KI'} (h : CompK t vs c f xs s kl), Gr (compL gYes t vs c f xs [] s) kl ki k x := by
  simp only [z_Gr, z_Gn, z_Ge, z_GrA, z_Ga, z_GrB, z_Gb, z_GrI, z_Gi, z_GrP, z_Gp, z_Gq, z_Gf, z_GrO, z_Gs, z_Br, z_Gm, z_Run, z_Ret, z_Fs, z_SetK, z_TgK, z_CompK]
  exact Du.comp_k
theorem n_comp : ∀ {it : DI} {t : DT} {vs : List Nat} {c : DB} {s : S} {kl : KL'} {ki : KI'} (h : Gi it s (fun xs s => CompK t vs c f xs s kl) x), Gn (dComp it t vs c f) s kl ki k x := by
  simp only [z_Gr, z_Gn, z_Ge, z_GrA, z_Ga, z_GrB, z_Gb, z_GrI, z_Gi, z_GrP, z_Gp, z_Gq, z_Gf, z_GrO, z_Gs, z_Br, z_Gm, z_Run, z_Ret, z_Fs, z_SetK, z_TgK, z_CompK]
  exact Du.n_comp
theorem n_compV : ∀ {t : DT} {vs : List Nat} {c : DB} {s : S} {kl : KL'} {ki : KI'} {d : D} {xs : List D} (e : s.sl[i]? = some (some d)) (e2 : frL d = some xs) (h : CompK t vs c f xs s kl), Gn (dCompV i t vs c f) s kl ki k x := by
  simp only [z_Gr, z_Gn, z_Ge, z_GrA, z_Ga, z_GrB, z_Gb, z_GrI, z_Gi, z_GrP, z_Gp, z_Gq, z_Gf, z_GrO, z_Gs, z_Br, z_Gm, z_Run, z_Ret, z_Fs, z_SetK, z_TgK, z_CompK]
  exact Du.n_compV
theorem comp_pure : ∀ {t : DT} {vs : List Nat} {c : DB} {xs : List D} {kl : KL'} (p : D → Bool) (g : D → D) (hl : xs.length ≤ 100000)
    (h : ∀ d ∈ xs, TgK t d ⟨wipeD sl vs, ce, ce.length⟩ fun s1 => Gb c s1 (fun b s2 => b = p d ∧ (p d = true → Ge f s2 (fun v s3 => v = g d ∧ s3.ce = ce) (fun _ _ => False)) ∧ (p d = false → s2.ce = ce)) (fun _ _ => False))
    (hd : kl ((xs.filter p).map g) ⟨sl, ce, n0⟩), CompK t vs c f xs ⟨sl, ce, n0⟩ kl := by
  simp only [z_Gr, z_Gn, z_Ge, z_GrA, z_Ga, z_GrB, z_Gb, z_GrI, z_Gi, z_GrP, z_Gp, z_Gq, z_Gf, z_GrO, z_Gs, z_Br, z_Gm, z_Run, z_Ret, z_Fs, z_SetK, z_TgK, z_CompK]
  exact Du.comp_pure
end
end Dv
namespace Dv
open PySem PySem.Spec PyProof.Rows L2
section
variable {kl : KL'} {ki : KI'} {k : KD} {x : KX} {s : S} {ce : List Cell} {i j : Int} {a b d : D} {n : Nat}
theorem q_v : ∀ {po : Po} (e : po = .v d) (h : k d s), Gq po s kl k := by
  simp only [z_Gr, z_Gn, z_Ge, z_GrA, z_Ga, z_GrB, z_Gb, z_GrI, z_Gi, z_GrP, z_Gp, z_Gq, z_Gf, z_GrO, z_Gs, z_Br, z_Gm, z_Run, z_Ret, z_Fs, z_SetK, z_TgK, z_CompK]
  exact Du.q_v
theorem q_l : ∀ {po : Po} {xs : List D} (e : po = .l xs) (h : kl xs s), Gq po s kl k := by
  simp only [z_Gr, z_Gn, z_Ge, z_GrA, z_Ga, z_GrB, z_Gb, z_GrI, z_Gi, z_GrP, z_Gp, z_Gq, z_Gf, z_GrO, z_Gs, z_Br, z_Gm, z_Run, z_Ret, z_Fs, z_SetK, z_TgK, z_CompK]
  exact Du.q_l
theorem q_add : ∀ (h : k (.int (i + j)) s), Gq (pAdd ce (.int i) (.int j)) s kl k := by
  simp only [z_Gr, z_Gn, z_Ge, z_GrA, z_Ga, z_GrB, z_Gb, z_GrI, z_Gi, z_GrP, z_Gp, z_Gq, z_Gf, z_GrO, z_Gs, z_Br, z_Gm, z_Run, z_Ret, z_Fs, z_SetK, z_TgK, z_CompK]
  exact Du.q_add
theorem q_sub : ∀ (h : k (.int (i - j)) s), Gq (pSub ce (.int i) (.int j)) s kl k := by
  simp only [z_Gr, z_Gn, z_Ge, z_GrA, z_Ga, z_GrB, z_Gb, z_GrI, z_Gi, z_GrP, z_Gp, z_Gq, z_Gf, z_GrO, z_Gs, z_Br, z_Gm, z_Run, z_Ret, z_Fs, z_SetK, z_TgK, z_CompK]
  exact Du.q_sub
theorem q_mul : ∀ (hb : bits i + bits j < 900000) (h : k (.int (i * j)) s), Gq (pMul ce (.int i) (.int j)) s kl k := by
  simp only [z_Gr, z_Gn, z_Ge, z_GrA, z_Ga, z_GrB, z_Gb, z_GrI, z_Gi, z_GrP, z_Gp, z_Gq, z_Gf, z_GrO, z_Gs, z_Br, z_Gm, z_Run, z_Ret, z_Fs, z_SetK, z_TgK, z_CompK]
  exact Du.q_mul
theorem q_div : ∀ (h0 : 0 < j) (hb : bits j < 9000) (h : k (.int (i / j)) s), Gq (pDiv ce (.int i) (.int j)) s kl k := by
  simp only [z_Gr, z_Gn, z_Ge, z_GrA, z_Ga, z_GrB, z_Gb, z_GrI, z_Gi, z_GrP, z_Gp, z_Gq, z_Gf, z_GrO, z_Gs, z_Br, z_Gm, z_Run, z_Ret, z_Fs, z_SetK, z_TgK, z_CompK]
  exact Du.q_div
theorem q_mod : ∀ (h0 : 0 < j) (h : k (.int (i % j)) s), Gq (pMod ce (.int i) (.int j)) s kl k := by
  simp only [z_Gr, z_Gn, z_Ge, z_GrA, z_Ga, z_GrB, z_Gb, z_GrI, z_Gi, z_GrP, z_Gp, z_Gq, z_Gf, z_GrO, z_Gs, z_Br, z_Gm, z_Run, z_Ret, z_Fs, z_SetK, z_TgK, z_CompK]
  exact Du.q_mod
theorem q_pow : ∀ (hb : 0 ≤ j ∧ ((bits i : Int) + 1) * j ≤ 134217728) (h : k (.int (i ^ j.toNat)) s), Gq (pPow ce (.int i) (.int j)) s kl k := by
  simp only [z_Gr, z_Gn, z_Ge, z_GrA, z_Ga, z_GrB, z_Gb, z_GrI, z_Gi, z_GrP, z_Gp, z_Gq, z_Gf, z_GrO, z_Gs, z_Br, z_Gm, z_Run, z_Ret, z_Fs, z_SetK, z_TgK, z_CompK]
  exact Du.q_pow
theorem q_cmp : ∀ {p : Int → Int → Bool} (h : k (.bl (p i j)) s), Gq (pCmp p ce (.int i) (.int j)) s kl k := by
  simp only [z_Gr, z_Gn, z_Ge, z_GrA, z_Ga, z_GrB, z_Gb, z_GrI, z_Gi, z_GrP, z_Gp, z_Gq, z_Gf, z_GrO, z_Gs, z_Br, z_Gm, z_Run, z_Ret, z_Fs, z_SetK, z_TgK, z_CompK]
  exact Du.q_cmp
theorem q_lt : ∀ (h : k (.bl (decide (i < j))) s), Gq (pLt ce (.int i) (.int j)) s kl k := by
  simp only [z_Gr, z_Gn, z_Ge, z_GrA, z_Ga, z_GrB, z_Gb, z_GrI, z_Gi, z_GrP, z_Gp, z_Gq, z_Gf, z_GrO, z_Gs, z_Br, z_Gm, z_Run, z_Ret, z_Fs, z_SetK, z_TgK, z_CompK]
  exact Du.q_lt
theorem q_le : ∀ (h : k (.bl (decide (i ≤ j))) s), Gq (pLe ce (.int i) (.int j)) s kl k := by
  simp only [z_Gr, z_Gn, z_Ge, z_GrA, z_Ga, z_GrB, z_Gb, z_GrI, z_Gi, z_GrP, z_Gp, z_Gq, z_Gf, z_GrO, z_Gs, z_Br, z_Gm, z_Run, z_Ret, z_Fs, z_SetK, z_TgK, z_CompK]
  exact Du.q_le
theorem q_gt : ∀ (h : k (.bl (decide (j < i))) s), Gq (pGt ce (.int i) (.int j)) s kl k := by
  simp only [z_Gr, z_Gn, z_Ge, z_GrA, z_Ga, z_GrB, z_Gb, z_GrI, z_Gi, z_GrP, z_Gp, z_Gq, z_Gf, z_GrO, z_Gs, z_Br, z_Gm, z_Run, z_Ret, z_Fs, z_SetK, z_TgK, z_CompK]
  exact Du.q_gt
theorem q_ge : ∀ (h : k (.bl (decide (j ≤ i))) s), Gq (pGe ce (.int i) (.int j)) s kl k := by
  simp only [z_Gr, z_Gn, z_Ge, z_GrA, z_Ga, z_GrB, z_Gb, z_GrI, z_Gi, z_GrP, z_Gp, z_Gq, z_Gf, z_GrO, z_Gs, z_Br, z_Gm, z_Run, z_Ret, z_Fs, z_SetK, z_TgK, z_CompK]
  exact Du.q_ge
theorem q_eqI : ∀ (h : k (.bl (decide (i = j))) s), Gq (pEq ce (.int i) (.int j)) s kl k := by
  simp only [z_Gr, z_Gn, z_Ge, z_GrA, z_Ga, z_GrB, z_Gb, z_GrI, z_Gi, z_GrP, z_Gp, z_Gq, z_Gf, z_GrO, z_Gs, z_Br, z_Gm, z_Run, z_Ret, z_Fs, z_SetK, z_TgK, z_CompK]
  exact Du.q_eqI
theorem q_neI : ∀ (h : k (.bl (!decide (i = j))) s), Gq (pNe ce (.int i) (.int j)) s kl k := by
  simp only [z_Gr, z_Gn, z_Ge, z_GrA, z_Ga, z_GrB, z_Gb, z_GrI, z_Gi, z_GrP, z_Gp, z_Gq, z_Gf, z_GrO, z_Gs, z_Br, z_Gm, z_Run, z_Ret, z_Fs, z_SetK, z_TgK, z_CompK]
  exact Du.q_neI
theorem q_eqL : ∀ {u v : List Int} (h : k (.bl (decide (u = v))) s), Gq (pEq ce (lI u) (lI v)) s kl k := by
  simp only [z_Gr, z_Gn, z_Ge, z_GrA, z_Ga, z_GrB, z_Gb, z_GrI, z_Gi, z_GrP, z_Gp, z_Gq, z_Gf, z_GrO, z_Gs, z_Br, z_Gm, z_Run, z_Ret, z_Fs, z_SetK, z_TgK, z_CompK]
  exact Du.q_eqL
theorem q_neL : ∀ {u v : List Int} (h : k (.bl (!decide (u = v))) s), Gq (pNe ce (lI u) (lI v)) s kl k := by
  simp only [z_Gr, z_Gn, z_Ge, z_GrA, z_Ga, z_GrB, z_Gb, z_GrI, z_Gi, z_GrP, z_Gp, z_Gq, z_Gf, z_GrO, z_Gs, z_Br, z_Gm, z_Run, z_Ret, z_Fs, z_SetK, z_TgK, z_CompK]
  exact Du.q_neL
theorem q_neg : ∀ (h : k (.int (-i)) s), Gq (pNeg ce (.int i)) s kl k := by
  simp only [z_Gr, z_Gn, z_Ge, z_GrA, z_Ga, z_GrB, z_Gb, z_GrI, z_Gi, z_GrP, z_Gp, z_Gq, z_Gf, z_GrO, z_Gs, z_Br, z_Gm, z_Run, z_Ret, z_Fs, z_SetK, z_TgK, z_CompK]
  exact Du.q_neg
theorem q_addL : ∀ {u v : List D} (hl : u.length + v.length ≤ 100000) (h : kl (u ++ v) s), Gq (pAdd ce (.lst u) (.lst v)) s kl k := by
  simp only [z_Gr, z_Gn, z_Ge, z_GrA, z_Ga, z_GrB, z_Gb, z_GrI, z_Gi, z_GrP, z_Gp, z_Gq, z_Gf, z_GrO, z_Gs, z_Br, z_Gm, z_Run, z_Ret, z_Fs, z_SetK, z_TgK, z_CompK]
  exact Du.q_addL
theorem q_repL : ∀ {u : List D} (hl : i ≤ 100000 ∧ u.length * i.toNat ≤ 100000 ∧ -100000 ≤ i) (h : kl (List.replicate i.toNat u).flatten s), Gq (pRep ce (.lst u) (.int i)) s kl k := by
  simp only [z_Gr, z_Gn, z_Ge, z_GrA, z_Ga, z_GrB, z_Gb, z_GrI, z_Gi, z_GrP, z_Gp, z_Gq, z_Gf, z_GrO, z_Gs, z_Br, z_Gm, z_Run, z_Ret, z_Fs, z_SetK, z_TgK, z_CompK]
  exact Du.q_repL
theorem q_fld : ∀ {c0 : Nat} {f : Str} {fs : List (Str × D)} (e1 : instF c0 ce a = some fs) (e2 : fs.lookup f = some d) (h : k d s), Gq (pFld c0 f ce a) s kl k := by
  simp only [z_Gr, z_Gn, z_Ge, z_GrA, z_Ga, z_GrB, z_Gb, z_GrI, z_Gi, z_GrP, z_Gp, z_Gq, z_Gf, z_GrO, z_Gs, z_Br, z_Gm, z_Run, z_Ret, z_Fs, z_SetK, z_TgK, z_CompK]
  exact Du.q_fld
theorem q_ix : ∀ {xs : List D} (e : lookU ce a = some xs) (e2 : atI xs i = some d) (h : k d s), Gq (pIx ce a (.int i)) s kl k := by
  simp only [z_Gr, z_Gn, z_Ge, z_GrA, z_Ga, z_GrB, z_Gb, z_GrI, z_Gi, z_GrP, z_Gp, z_Gq, z_Gf, z_GrO, z_Gs, z_Br, z_Gm, z_Run, z_Ret, z_Fs, z_SetK, z_TgK, z_CompK]
  exact Du.q_ix
theorem q_len : ∀ {xs : List D} (e : lookU ce a = some xs) (h : k (.int (xs.length : Nat)) s), Gq (b1 lenD ce [a]) s kl k := by
  simp only [z_Gr, z_Gn, z_Ge, z_GrA, z_Ga, z_GrB, z_Gb, z_GrI, z_Gi, z_GrP, z_Gp, z_Gq, z_Gf, z_GrO, z_Gs, z_Br, z_Gm, z_Run, z_Ret, z_Fs, z_SetK, z_TgK, z_CompK]
  exact Du.q_len
theorem q_abs : ∀ (h : k (.int (if i < 0 then -i else i)) s), Gq (b1 absD ce [.int i]) s kl k := by
  simp only [z_Gr, z_Gn, z_Ge, z_GrA, z_Ga, z_GrB, z_Gb, z_GrI, z_Gi, z_GrP, z_Gp, z_Gq, z_Gf, z_GrO, z_Gs, z_Br, z_Gm, z_Run, z_Ret, z_Fs, z_SetK, z_TgK, z_CompK]
  exact Du.q_abs
theorem q_max : ∀ (h : k (.int (if j > i then j else i)) s), Gq (b2 maxD ce [.int i, .int j]) s kl k := by
  simp only [z_Gr, z_Gn, z_Ge, z_GrA, z_Ga, z_GrB, z_Gb, z_GrI, z_Gi, z_GrP, z_Gp, z_Gq, z_Gf, z_GrO, z_Gs, z_Br, z_Gm, z_Run, z_Ret, z_Fs, z_SetK, z_TgK, z_CompK]
  exact Du.q_max
theorem q_min : ∀ (h : k (.int (if j < i then j else i)) s), Gq (b2 minD ce [.int i, .int j]) s kl k := by
  simp only [z_Gr, z_Gn, z_Ge, z_GrA, z_Ga, z_GrB, z_Gb, z_GrI, z_Gi, z_GrP, z_Gp, z_Gq, z_Gf, z_GrO, z_Gs, z_Br, z_Gm, z_Run, z_Ret, z_Fs, z_SetK, z_TgK, z_CompK]
  exact Du.q_min
theorem q_intI : ∀ (h : k (.int i) s), Gq (b1 intD ce [.int i]) s kl k := by
  simp only [z_Gr, z_Gn, z_Ge, z_GrA, z_Ga, z_GrB, z_Gb, z_GrI, z_Gi, z_GrP, z_Gp, z_Gq, z_Gf, z_GrO, z_Gs, z_Br, z_Gm, z_Run, z_Ret, z_Fs, z_SetK, z_TgK, z_CompK]
  exact Du.q_intI
theorem q_intB : ∀ {t : Bool} (h : k (.int (if t then 1 else 0)) s), Gq (b1 intD ce [.bl t]) s kl k := by
  simp only [z_Gr, z_Gn, z_Ge, z_GrA, z_Ga, z_GrB, z_Gb, z_GrI, z_Gi, z_GrP, z_Gp, z_Gq, z_Gf, z_GrO, z_Gs, z_Br, z_Gm, z_Run, z_Ret, z_Fs, z_SetK, z_TgK, z_CompK]
  exact Du.q_intB
theorem q_list : ∀ {xs : List D} (e : lookU ce a = some xs) (h : kl xs s), Gq (b1 listD ce [a]) s kl k := by
  simp only [z_Gr, z_Gn, z_Ge, z_GrA, z_Ga, z_GrB, z_Gb, z_GrI, z_Gi, z_GrP, z_Gp, z_Gq, z_Gf, z_GrO, z_Gs, z_Br, z_Gm, z_Run, z_Ret, z_Fs, z_SetK, z_TgK, z_CompK]
  exact Du.q_list
theorem q_sorted : ∀ {ns : List Int} (e : look ce a = some (ns.map .int)) (h : kl ((isortI ns).map .int) s), Gq (b1 sortedD ce [a]) s kl k := by
  simp only [z_Gr, z_Gn, z_Ge, z_GrA, z_Ga, z_GrB, z_Gb, z_GrI, z_Gi, z_GrP, z_Gp, z_Gq, z_Gf, z_GrO, z_Gs, z_Br, z_Gm, z_Run, z_Ret, z_Fs, z_SetK, z_TgK, z_CompK]
  exact Du.q_sorted
theorem q_all : ∀ {bs : List Bool} (e : look ce a = some (bs.map .bl)) (h : k (.bl (bs.all id)) s), Gq (b1 allD ce [a]) s kl k := by
  simp only [z_Gr, z_Gn, z_Ge, z_GrA, z_Ga, z_GrB, z_Gb, z_GrI, z_Gi, z_GrP, z_Gp, z_Gq, z_Gf, z_GrO, z_Gs, z_Br, z_Gm, z_Run, z_Ret, z_Fs, z_SetK, z_TgK, z_CompK]
  exact Du.q_all
theorem q_lcm : ∀ (h1 : bits i < 6000) (h2 : bits j < 6000) (h : k (.int (lcmI i j)) s), Gq (b2 lcmD ce [.int i, .int j]) s kl k := by
  simp only [z_Gr, z_Gn, z_Ge, z_GrA, z_Ga, z_GrB, z_Gb, z_GrI, z_Gi, z_GrP, z_Gp, z_Gq, z_Gf, z_GrO, z_Gs, z_Br, z_Gm, z_Run, z_Ret, z_Fs, z_SetK, z_TgK, z_CompK]
  exact Du.q_lcm
theorem q_gcd : ∀ (h : k (.int (gcdI i j)) s), Gq (b2 gcdD ce [.int i, .int j]) s kl k := by
  simp only [z_Gr, z_Gn, z_Ge, z_GrA, z_Ga, z_GrB, z_Gb, z_GrI, z_Gi, z_GrP, z_Gp, z_Gq, z_Gf, z_GrO, z_Gs, z_Br, z_Gm, z_Run, z_Ret, z_Fs, z_SetK, z_TgK, z_CompK]
  exact Du.q_gcd
theorem q_sum : ∀ {ns : List Int} (e : look ce a = some (ns.map .int)) (h : k (.int ns.sum) s), Gq (b1 sumD ce [a]) s kl k := by
  simp only [z_Gr, z_Gn, z_Ge, z_GrA, z_Ga, z_GrB, z_Gb, z_GrI, z_Gi, z_GrP, z_Gp, z_Gq, z_Gf, z_GrO, z_Gs, z_Br, z_Gm, z_Run, z_Ret, z_Fs, z_SetK, z_TgK, z_CompK]
  exact Du.q_sum
theorem q_isN : ∀ (h : k (.bl true) s), Gq (pIs false ce .non .non) s kl k := by
  simp only [z_Gr, z_Gn, z_Ge, z_GrA, z_Ga, z_GrB, z_Gb, z_GrI, z_Gi, z_GrP, z_Gp, z_Gq, z_Gf, z_GrO, z_Gs, z_Br, z_Gm, z_Run, z_Ret, z_Fs, z_SetK, z_TgK, z_CompK]
  exact Du.q_isN
theorem q_isI : ∀ (h : k (.bl false) s), Gq (pIs false ce (.int i) .non) s kl k := by
  simp only [z_Gr, z_Gn, z_Ge, z_GrA, z_Ga, z_GrB, z_Gb, z_GrI, z_Gi, z_GrP, z_Gp, z_Gq, z_Gf, z_GrO, z_Gs, z_Br, z_Gm, z_Run, z_Ret, z_Fs, z_SetK, z_TgK, z_CompK]
  exact Du.q_isI
theorem q_isi : ∀ {ok ans : TyT → Bool} {t : TyT} (e : tyD ce a = some t) (e2 : ok t = true) (h : k (.bl (ans t)) s), Gq (isiD ok ans ce a) s kl k := by
  simp only [z_Gr, z_Gn, z_Ge, z_GrA, z_Ga, z_GrB, z_Gb, z_GrI, z_Gi, z_GrP, z_Gp, z_Gq, z_Gf, z_GrO, z_Gs, z_Br, z_Gm, z_Run, z_Ret, z_Fs, z_SetK, z_TgK, z_CompK]
  exact Du.q_isi
theorem q_repr : ∀ {p : PyData} (hp : toP3 ce a = some p) (h : rpOk p) (q : k (.str p.shown) s), Gq (b1 reprD ce [a]) s kl k := by
  simp only [z_Gr, z_Gn, z_Ge, z_GrA, z_Ga, z_GrB, z_Gb, z_GrI, z_Gi, z_GrP, z_Gp, z_Gq, z_Gf, z_GrO, z_Gs, z_Br, z_Gm, z_Run, z_Ret, z_Fs, z_SetK, z_TgK, z_CompK]
  exact Du.q_repr
theorem q_eqS : ∀ {z : Str} (hz : PyData.strOk z = true) (h : k (.bl true) s), Gq (pEq ce (.str z) (.str z)) s kl k := by
  simp only [z_Gr, z_Gn, z_Ge, z_GrA, z_Ga, z_GrB, z_Gb, z_GrI, z_Gi, z_GrP, z_Gp, z_Gq, z_Gf, z_GrO, z_Gs, z_Br, z_Gm, z_Run, z_Ret, z_Fs, z_SetK, z_TgK, z_CompK]
  exact Du.q_eqS
theorem q_neS : ∀ {z : Str} (hz : PyData.strOk z = true) (h : k (.bl false) s), Gq (pNe ce (.str z) (.str z)) s kl k := by
  simp only [z_Gr, z_Gn, z_Ge, z_GrA, z_Ga, z_GrB, z_Gb, z_GrI, z_Gi, z_GrP, z_Gp, z_Gq, z_Gf, z_GrO, z_Gs, z_Br, z_Gm, z_Run, z_Ret, z_Fs, z_SetK, z_TgK, z_CompK]
  exact Du.q_neS
end
section
variable {k : KD} {x : KX} {sl sl' : List (Option D)} {ce ce' : List Cell} {n0 : Nat} {f g : DE} {ga : DA} {s : S} {i j : Nat} {nx bk ct : KS} {rt : R → Prop} {kl : KL'} {ki : KI'} {kA : KL'}
@[irreducible] noncomputable def CeK := @Du.CeK
theorem z_CeK : @CeK = @Du.CeK := by
  delta CeK
  rfl
theorem cek : ∀ {c : Cell} (h : k (.rf ce.length) ⟨sl, ce ++ [c], n0⟩), CeK c ⟨sl, ce, n0⟩ k := by
  simp only [z_Gr, z_Gn, z_Ge, z_GrA, z_Ga, z_GrB, z_Gb, z_GrI, z_Gi, z_GrP, z_Gp, z_Gq, z_Gf, z_GrO, z_Gs, z_Br, z_Gm, z_Run, z_Ret, z_Fs, z_SetK, z_TgK, z_CompK, z_CeK]
  exact Du.cek
theorem g_ce : ∀ (h : Gn f s (fun xs s => CeK (.lst xs) s k) (fun c fs s => CeK (.ins c fs) s k) k x), Gn (dCe f) s kl ki k x := by
  simp only [z_Gr, z_Gn, z_Ge, z_GrA, z_Ga, z_GrB, z_Gb, z_GrI, z_Gi, z_GrP, z_Gp, z_Gq, z_Gf, z_GrO, z_Gs, z_Br, z_Gm, z_Run, z_Ret, z_Fs, z_SetK, z_TgK, z_CompK, z_CeK]
  exact Du.g_ce
theorem g_newD : ∀ (h : CeK (.dic []) s k), Gn dNewD s kl ki k x := by
  simp only [z_Gr, z_Gn, z_Ge, z_GrA, z_Ga, z_GrB, z_Gb, z_GrI, z_Gi, z_GrP, z_Gp, z_Gq, z_Gf, z_GrO, z_Gs, z_Br, z_Gm, z_Run, z_Ret, z_Fs, z_SetK, z_TgK, z_CompK, z_CeK]
  exact Du.g_newD
@[irreducible] noncomputable def WrK := @Du.WrK
theorem z_WrK : @WrK = @Du.WrK := by
  delta WrK
  rfl
theorem wrk : ∀ {c : Cell} (h : nx ⟨sl, ce.set j c, n0⟩), WrK j c ⟨sl, ce, n0⟩ nx := by
  simp only [z_Gr, z_Gn, z_Ge, z_GrA, z_Ga, z_GrB, z_Gb, z_GrI, z_Gi, z_GrP, z_Gp, z_Gq, z_Gf, z_GrO, z_Gs, z_Br, z_Gm, z_Run, z_Ret, z_Fs, z_SetK, z_TgK, z_CompK, z_CeK, z_WrK]
  exact Du.wrk
theorem wrk' : ∀ {c : Cell} (e : ce.set j c = ce') (h : nx ⟨sl, ce', n0⟩), WrK j c ⟨sl, ce, n0⟩ nx := by
  simp only [z_Gr, z_Gn, z_Ge, z_GrA, z_Ga, z_GrB, z_Gb, z_GrI, z_Gi, z_GrP, z_Gp, z_Gq, z_Gf, z_GrO, z_Gs, z_Br, z_Gm, z_Run, z_Ret, z_Fs, z_SetK, z_TgK, z_CompK, z_CeK, z_WrK]
  exact Du.wrk'
theorem g_app : ∀ {xs : List D} {d : D} (e : s.ce[j]? = some (.lst xs)) (hl : xs.length < 100000) (h : WrK j (.lst (xs ++ [d])) s (k .non)), Gm (mApp s.ce (.rf j) [d]) s kl k := by
  simp only [z_Gr, z_Gn, z_Ge, z_GrA, z_Ga, z_GrB, z_Gb, z_GrI, z_Gi, z_GrP, z_Gp, z_Gq, z_Gf, z_GrO, z_Gs, z_Br, z_Gm, z_Run, z_Ret, z_Fs, z_SetK, z_TgK, z_CompK, z_CeK, z_WrK]
  exact Du.g_app
theorem g_ext : ∀ {xs ys : List D} (e : s.ce[j]? = some (.lst xs)) (hl : xs.length + ys.length ≤ 100000) (h : WrK j (.lst (xs ++ ys)) s (k .non)), Gm (mExt s.ce (.rf j) [.lst ys]) s kl k := by
  simp only [z_Gr, z_Gn, z_Ge, z_GrA, z_Ga, z_GrB, z_Gb, z_GrI, z_Gi, z_GrP, z_Gp, z_Gq, z_Gf, z_GrO, z_Gs, z_Br, z_Gm, z_Run, z_Ret, z_Fs, z_SetK, z_TgK, z_CompK, z_CeK, z_WrK]
  exact Du.g_ext
theorem g_setF : ∀ {c0 : Nat} {nm : Str} {fo fv : DE} (h : Ge fv s (fun d s => Ge fo s (fun o s => ∃ j fs, o = .rf j ∧ s.ce[j]? = some (.ins c0 fs) ∧ fs.length < 900 ∧ WrK j (.ins c0 (putFD nm d fs)) s nx) x) x), Gs (sSetF c0 nm fo fv) s nx bk ct rt x := by
  simp only [z_Gr, z_Gn, z_Ge, z_GrA, z_Ga, z_GrB, z_Gb, z_GrI, z_Gi, z_GrP, z_Gp, z_Gq, z_Gf, z_GrO, z_Gs, z_Br, z_Gm, z_Run, z_Ret, z_Fs, z_SetK, z_TgK, z_CompK, z_CeK, z_WrK]
  exact Du.g_setF
theorem g_setI : ∀ {fo fi fv : DE} (h : Ge fv s (fun d s => Ge fo s (fun o s => Ge fi s (fun ix s => ∃ j xs i n, o = .rf j ∧ ix = .int i ∧ s.ce[j]? = some (.lst xs) ∧ ixN xs.length i = some n ∧ WrK j (.lst (xs.set n d)) s nx) x) x) x), Gs (sSetI fo fi fv) s nx bk ct rt x := by
  simp only [z_Gr, z_Gn, z_Ge, z_GrA, z_Ga, z_GrB, z_Gb, z_GrI, z_Gi, z_GrP, z_Gp, z_Gq, z_Gf, z_GrO, z_Gs, z_Br, z_Gm, z_Run, z_Ret, z_Fs, z_SetK, z_TgK, z_CompK, z_CeK, z_WrK]
  exact Du.g_setI
theorem g_putD : ∀ {fo fk fv : DE} (h : Ge fv s (fun d s => Ge fo s (fun o s => Ge fk s (fun y s => ∃ j kvs ky, o = .rf j ∧ s.ce[j]? = some (.dic kvs) ∧ keyD y = some ky ∧ kvs.length < 100000 ∧ WrK j (.dic (putKD kvs ky d)) s nx) x) x) x), Gs (sPutD fo fk fv) s nx bk ct rt x := by
  simp only [z_Gr, z_Gn, z_Ge, z_GrA, z_Ga, z_GrB, z_Gb, z_GrI, z_Gi, z_GrP, z_Gp, z_Gq, z_Gf, z_GrO, z_Gs, z_Br, z_Gm, z_Run, z_Ret, z_Fs, z_SetK, z_TgK, z_CompK, z_CeK, z_WrK]
  exact Du.g_putD
theorem br_not : ∀ {p q : Prop} {t : Bool} (h : Br t q p), Br (!t) p q := by
  simp only [z_Gr, z_Gn, z_Ge, z_GrA, z_Ga, z_GrB, z_Gb, z_GrI, z_Gi, z_GrP, z_Gp, z_Gq, z_Gf, z_GrO, z_Gs, z_Br, z_Gm, z_Run, z_Ret, z_Fs, z_SetK, z_TgK, z_CompK, z_CeK, z_WrK]
  exact Du.br_not
end
end Dv
namespace Dv
open PySem PySem.Spec PyProof.Rows L2
section
open Classical
end
end Dv
namespace Dv
open PySem PySem.Spec PyProof.Rows L2
theorem run_lit : ∀ {n : Nat} {b : DS} {ds : List D} {ce : List Cell} {sl : List (Option D)} {Q : FR → Prop} [h0 : PadN ds n sl] (h : Gs b ⟨sl, ce, ce.length⟩ (fun s => Ret ce Q (.ok .non s)) (fun _ => False) (fun _ => False) (Ret ce Q) (fun e s => Ret ce Q (.er e s))), Q (Run n b ds ce) := by
  simp only [z_Gr, z_Gn, z_Ge, z_GrA, z_Ga, z_GrB, z_Gb, z_GrI, z_Gi, z_GrP, z_Gp, z_Gq, z_Gf, z_GrO, z_Gs, z_Br, z_Gm, z_Run, z_Ret, z_Fs, z_SetK, z_TgK, z_CompK, z_CeK, z_WrK]
  exact Du.run_lit
theorem run_eq : ∀ {n : Nat} {b : DS} {ds : List D} {ce : List Cell} {sl : List (Option D)} {r : FR} [h0 : PadN ds n sl] (h : Gs b ⟨sl, ce, ce.length⟩ (fun s => Ret ce (fun x => x = r) (.ok .non s)) (fun _ => False) (fun _ => False) (Ret ce fun x => x = r) (fun e s => Ret ce (fun x => x = r) (.er e s))), Run n b ds ce = r := by
  simp only [z_Gr, z_Gn, z_Ge, z_GrA, z_Ga, z_GrB, z_Gb, z_GrI, z_Gi, z_GrP, z_Gp, z_Gq, z_Gf, z_GrO, z_Gs, z_Br, z_Gm, z_Run, z_Ret, z_Fs, z_SetK, z_TgK, z_CompK, z_CeK, z_WrK]
  exact Du.run_eq
theorem run_fs : ∀ {n : Nat} {b : DS} {ds : List D} {ce : List Cell} {sl : List (Option D)} {P : (FR → Prop) → Prop} [h0 : PadN ds n sl] (h : ∀ Q, P Q → Gs b ⟨sl, ce, ce.length⟩ (fun s => Ret ce Q (.ok .non s)) (fun _ => False) (fun _ => False) (Ret ce Q) (fun e s => Ret ce Q (.er e s))), Fs (Run n b ds ce) P := by
  simp only [z_Gr, z_Gn, z_Ge, z_GrA, z_Ga, z_GrB, z_Gb, z_GrI, z_Gi, z_GrP, z_Gp, z_Gq, z_Gf, z_GrO, z_Gs, z_Br, z_Gm, z_Run, z_Ret, z_Fs, z_SetK, z_TgK, z_CompK, z_CeK, z_WrK]
  exact Du.run_fs
@[irreducible] noncomputable def At := @Du.At
theorem z_At : @At = @Du.At := by
  delta At
  rfl
theorem at_lit : ∀ {sl : List (Option D)} {ce : List Cell} {n0 : Nat} {P : List (Option D) → List Cell → Nat → Prop} (h : P sl ce n0), At ⟨sl, ce, n0⟩ P := by
  simp only [z_Gr, z_Gn, z_Ge, z_GrA, z_Ga, z_GrB, z_Gb, z_GrI, z_Gi, z_GrP, z_Gp, z_Gq, z_Gf, z_GrO, z_Gs, z_Br, z_Gm, z_Run, z_Ret, z_Fs, z_SetK, z_TgK, z_CompK, z_CeK, z_WrK, z_At]
  exact Du.at_lit
section
variable {kl : KL'} {ki : KI'} {k : KD} {x : KX} {s : S} {f g : DE} {ga : DA} {tb tc : DB} {d a b : D} {i j n : Nat} {p : List Cell → D → Po} {p2 : List Cell → D → D → Po} {kA : KL'} {kB : Bool → S → Prop} {m : Fn} {c0 : Nat} {sl : List (Option D)} {ce : List Cell} {n0 : Nat} {nx bk ct : KS} {rt : R → Prop}
theorem g_var : ∀ [h0 : GetN sl i d] (h : k d ⟨sl, ce, n0⟩), Gn (dVar i) ⟨sl, ce, n0⟩ kl ki k x := by
  simp only [z_Gr, z_Gn, z_Ge, z_GrA, z_Ga, z_GrB, z_Gb, z_GrI, z_Gi, z_GrP, z_Gp, z_Gq, z_Gf, z_GrO, z_Gs, z_Br, z_Gm, z_Run, z_Ret, z_Fs, z_SetK, z_TgK, z_CompK, z_CeK, z_WrK, z_At]
  exact Du.g_var
theorem g_op' : ∀ (h : Ge f s (fun a s => Ge g s (fun b s => At s fun sl ce n0 => Gq (p2 ce a b) ⟨sl, ce, n0⟩ kl k) x) x), Gn (dOp p2 f g) s kl ki k x := by
  simp only [z_Gr, z_Gn, z_Ge, z_GrA, z_Ga, z_GrB, z_Gb, z_GrI, z_Gi, z_GrP, z_Gp, z_Gq, z_Gf, z_GrO, z_Gs, z_Br, z_Gm, z_Run, z_Ret, z_Fs, z_SetK, z_TgK, z_CompK, z_CeK, z_WrK, z_At]
  exact Du.g_op'
theorem g_un : ∀ (h : Ge f s (fun a s => At s fun sl ce n0 => Gq (p ce a) ⟨sl, ce, n0⟩ kl k) x), Gn (dUn p f) s kl ki k x := by
  simp only [z_Gr, z_Gn, z_Ge, z_GrA, z_Ga, z_GrB, z_Gb, z_GrI, z_Gi, z_GrP, z_Gp, z_Gq, z_Gf, z_GrO, z_Gs, z_Br, z_Gm, z_Run, z_Ret, z_Fs, z_SetK, z_TgK, z_CompK, z_CeK, z_WrK, z_At]
  exact Du.g_un
theorem g_bi : ∀ {pb : List Cell → List D → Po} (h : Ga ga s (fun ds s => At s fun sl ce n0 => Gq (pb ce ds) ⟨sl, ce, n0⟩ kl k) x), Gn (dBi pb ga) s kl ki k x := by
  simp only [z_Gr, z_Gn, z_Ge, z_GrA, z_Ga, z_GrB, z_Gb, z_GrI, z_Gi, z_GrP, z_Gp, z_Gq, z_Gf, z_GrO, z_Gs, z_Br, z_Gm, z_Run, z_Ret, z_Fs, z_SetK, z_TgK, z_CompK, z_CeK, z_WrK, z_At]
  exact Du.g_bi
theorem g_tru : ∀ (h : Ge f s (fun d s => At s fun sl ce n0 => ∃ b, truD ce d = some b ∧ kB b ⟨sl, ce, n0⟩) x), Gb (bTru f) s kB x := by
  simp only [z_Gr, z_Gn, z_Ge, z_GrA, z_Ga, z_GrB, z_Gb, z_GrI, z_Gi, z_GrP, z_Gp, z_Gq, z_Gf, z_GrO, z_Gs, z_Br, z_Gm, z_Run, z_Ret, z_Fs, z_SetK, z_TgK, z_CompK, z_CeK, z_WrK, z_At]
  exact Du.g_tru
theorem g_slice : ∀ {l u : DP} (h : Ge f s (fun d s => Gp l s (fun lo s => Gp u s (fun hi s => At s fun sl ce n0 => ∃ xs, look ce d = some xs ∧ kl (cutD xs lo hi) ⟨sl, ce, n0⟩) x) x) x), Gn (dSlice f l u) s kl ki k x := by
  simp only [z_Gr, z_Gn, z_Ge, z_GrA, z_Ga, z_GrB, z_Gb, z_GrI, z_Gi, z_GrP, z_Gp, z_Gq, z_Gf, z_GrO, z_Gs, z_Br, z_Gm, z_Run, z_Ret, z_Fs, z_SetK, z_TgK, z_CompK, z_CeK, z_WrK, z_At]
  exact Du.g_slice
theorem g_call1 : ∀ (h : Ga ga s (fun ds s => At s fun sl ce n0 => ds.length = n ∧ Gf (m ds ce) ⟨sl, ce, n0⟩ kl ki k x) x), Gn (dCall n m ga) s kl ki k x := by
  simp only [z_Gr, z_Gn, z_Ge, z_GrA, z_Ga, z_GrB, z_Gb, z_GrI, z_Gi, z_GrP, z_Gp, z_Gq, z_Gf, z_GrO, z_Gs, z_Br, z_Gm, z_Run, z_Ret, z_Fs, z_SetK, z_TgK, z_CompK, z_CeK, z_WrK, z_At]
  exact Du.g_call1
theorem g_own1 : ∀ (h : Ge f s (fun d s => At s fun sl ce n0 => ∃ fs, instF c0 ce d = some fs ∧ n = 1 ∧ Gf (m [d] ce) ⟨sl, ce, n0⟩ kl ki k x) x), Gn (dOwn1 c0 n m f) s kl ki k x := by
  simp only [z_Gr, z_Gn, z_Ge, z_GrA, z_Ga, z_GrB, z_Gb, z_GrI, z_Gi, z_GrP, z_Gp, z_Gq, z_Gf, z_GrO, z_Gs, z_Br, z_Gm, z_Run, z_Ret, z_Fs, z_SetK, z_TgK, z_CompK, z_CeK, z_WrK, z_At]
  exact Du.g_own1
theorem g_eqO : ∀ (h : Ge f s (fun d s => Ge g s (fun w s => At s fun sl ce n0 => ∃ fs fs', instF c0 ce d = some fs ∧ instF c0 ce w = some fs' ∧ n = 2 ∧ Gf (m [d, w] ce) ⟨sl, ce, n0⟩ kl ki k x) x) x), Gn (dEqO c0 n m f g) s kl ki k x := by
  simp only [z_Gr, z_Gn, z_Ge, z_GrA, z_Ga, z_GrB, z_Gb, z_GrI, z_Gi, z_GrP, z_Gp, z_Gq, z_Gf, z_GrO, z_Gs, z_Br, z_Gm, z_Run, z_Ret, z_Fs, z_SetK, z_TgK, z_CompK, z_CeK, z_WrK, z_At]
  exact Du.g_eqO
theorem g_prop : ∀ (h : Ge f s (fun d s => At s fun sl ce n0 => ∃ fs, instF c0 ce d = some fs ∧ n = 1 ∧ Gf (m [d] ce) ⟨sl, ce, n0⟩ kl ki k (fun _ _ => False)) x), Gn (dProp c0 n m f) s kl ki k x := by
  simp only [z_Gr, z_Gn, z_Ge, z_GrA, z_Ga, z_GrB, z_Gb, z_GrI, z_Gi, z_GrP, z_Gp, z_Gq, z_Gf, z_GrO, z_Gs, z_Br, z_Gm, z_Run, z_Ret, z_Fs, z_SetK, z_TgK, z_CompK, z_CeK, z_WrK, z_At]
  exact Du.g_prop
theorem g_meth : ∀ {nm : Str} (h : Ge f s (fun d s => At s fun sl ce n0 => ∃ fs, instF c0 ce d = some fs ∧ (fs.lookup nm).isNone = true ∧ Ga ga ⟨sl, ce, n0⟩ (fun ds s => At s fun sl ce n0 => ds.length + 1 = n ∧ Gf (m (d :: ds) ce) ⟨sl, ce, n0⟩ kl ki k x) x) x), Gn (dMeth c0 n nm m f ga) s kl ki k x := by
  simp only [z_Gr, z_Gn, z_Ge, z_GrA, z_Ga, z_GrB, z_Gb, z_GrI, z_Gi, z_GrP, z_Gp, z_Gq, z_Gf, z_GrO, z_Gs, z_Br, z_Gm, z_Run, z_Ret, z_Fs, z_SetK, z_TgK, z_CompK, z_CeK, z_WrK, z_At]
  exact Du.g_meth
theorem g_callO : ∀ (h : Ge f s (fun d s => At s fun sl ce n0 => (instF c0 ce d).isSome = true ∧ Ga ga ⟨sl, ce, n0⟩ (fun ds s => At s fun sl ce n0 => ∃ fs, instF c0 ce d = some fs ∧ ds.length + 1 = n ∧ Gf (m (d :: ds) ce) ⟨sl, ce, n0⟩ kl ki k x) x) x), Gn (dCallO c0 n m f ga) s kl ki k x := by
  simp only [z_Gr, z_Gn, z_Ge, z_GrA, z_Ga, z_GrB, z_Gb, z_GrI, z_Gi, z_GrP, z_Gp, z_Gq, z_Gf, z_GrO, z_Gs, z_Br, z_Gm, z_Run, z_Ret, z_Fs, z_SetK, z_TgK, z_CompK, z_CeK, z_WrK, z_At]
  exact Du.g_callO
@[irreducible] noncomputable def MkK := @Du.MkK
theorem z_MkK : @MkK = @Du.MkK := by
  delta MkK
  rfl
theorem g_make : ∀ {mk : MkFn} (h : Ga ga s (fun ds s => At s fun sl ce n0 => ds.length + 1 = n ∧ MkK c0 (mk ds ce) ⟨sl, ce, n0⟩ ki x) x), Gn (dMake c0 n mk ga) s kl ki k x := by
  simp only [z_Gr, z_Gn, z_Ge, z_GrA, z_Ga, z_GrB, z_Gb, z_GrI, z_Gi, z_GrP, z_Gp, z_Gq, z_Gf, z_GrO, z_Gs, z_Br, z_Gm, z_Run, z_Ret, z_Fs, z_SetK, z_TgK, z_CompK, z_CeK, z_WrK, z_At, z_MkK]
  exact Du.g_make
theorem mkk : ∀ {r : FI} {fs : List (Str × D)} (e : r = .ok fs) (h : ki c0 fs ⟨sl, ce, n0⟩), MkK c0 r ⟨sl, ce, n0⟩ ki x := by
  simp only [z_Gr, z_Gn, z_Ge, z_GrA, z_Ga, z_GrB, z_Gb, z_GrI, z_Gi, z_GrP, z_Gp, z_Gq, z_Gf, z_GrO, z_Gs, z_Br, z_Gm, z_Run, z_Ret, z_Fs, z_SetK, z_TgK, z_CompK, z_CeK, z_WrK, z_At, z_MkK]
  exact Du.mkk
theorem mkk_er : ∀ {r : FI} {e : Xc} (q : r = .er e) (h : x e ⟨sl, ce, n0⟩), MkK c0 r ⟨sl, ce, n0⟩ ki x := by
  simp only [z_Gr, z_Gn, z_Ge, z_GrA, z_Ga, z_GrB, z_Gb, z_GrI, z_Gi, z_GrP, z_Gp, z_Gq, z_Gf, z_GrO, z_Gs, z_Br, z_Gm, z_Run, z_Ret, z_Fs, z_SetK, z_TgK, z_CompK, z_CeK, z_WrK, z_At, z_MkK]
  exact Du.mkk_er
theorem g_callK : ∀ {nk : Nat} {ix : List Nat} (h : Ga ga s (fun ds s => At s fun sl ce n0 => ds.length = nk ∧ (pick ix ds).length = n ∧ Gf (m (pick ix ds) ce) ⟨sl, ce, n0⟩ kl ki k x) x), Gn (dCallK n nk m ix ga) s kl ki k x := by
  simp only [z_Gr, z_Gn, z_Ge, z_GrA, z_Ga, z_GrB, z_Gb, z_GrI, z_Gi, z_GrP, z_Gp, z_Gq, z_Gf, z_GrO, z_Gs, z_Br, z_Gm, z_Run, z_Ret, z_Fs, z_SetK, z_TgK, z_CompK, z_CeK, z_WrK, z_At, z_MkK]
  exact Du.g_callK
theorem g_methK : ∀ {nk : Nat} {nm : Str} {ix : List Nat} (h : Ge f s (fun d s => At s fun sl ce n0 => ∃ fs, instF c0 ce d = some fs ∧ (fs.lookup nm).isNone = true ∧ Ga ga ⟨sl, ce, n0⟩ (fun ds s => At s fun sl ce n0 => ds.length = nk ∧ (pick ix (d :: ds)).length = n ∧ Gf (m (pick ix (d :: ds)) ce) ⟨sl, ce, n0⟩ kl ki k x) x) x), Gn (dMethK c0 n nk nm m ix f ga) s kl ki k x := by
  simp only [z_Gr, z_Gn, z_Ge, z_GrA, z_Ga, z_GrB, z_Gb, z_GrI, z_Gi, z_GrP, z_Gp, z_Gq, z_Gf, z_GrO, z_Gs, z_Br, z_Gm, z_Run, z_Ret, z_Fs, z_SetK, z_TgK, z_CompK, z_CeK, z_WrK, z_At, z_MkK]
  exact Du.g_methK
theorem g_inO : ∀ (h : Ge f s (fun d s => Ge g s (fun w s => At s fun sl ce n0 => ∃ fs, instF c0 ce w = some fs ∧ Gf (m [w, d] ce) ⟨sl, ce, n0⟩ noL noI (fun r s => ∃ t, r = .bl t ∧ k (.bl t) s) x) x) x), Gn (dInO c0 m f g) s kl ki k x := by
  simp only [z_Gr, z_Gn, z_Ge, z_GrA, z_Ga, z_GrB, z_Gb, z_GrI, z_Gi, z_GrP, z_Gp, z_Gq, z_Gf, z_GrO, z_Gs, z_Br, z_Gm, z_Run, z_Ret, z_Fs, z_SetK, z_TgK, z_CompK, z_CeK, z_WrK, z_At, z_MkK]
  exact Du.g_inO
theorem g_notInO : ∀ (h : Ge f s (fun d s => Ge g s (fun w s => At s fun sl ce n0 => ∃ fs, instF c0 ce w = some fs ∧ Gf (m [w, d] ce) ⟨sl, ce, n0⟩ noL noI (fun r s => ∃ t, r = .bl t ∧ k (.bl !t) s) x) x) x), Gn (dNotInO c0 m f g) s kl ki k x := by
  simp only [z_Gr, z_Gn, z_Ge, z_GrA, z_Ga, z_GrB, z_Gb, z_GrI, z_Gi, z_GrP, z_Gp, z_Gq, z_Gf, z_GrO, z_Gs, z_Br, z_Gm, z_Run, z_Ret, z_Fs, z_SetK, z_TgK, z_CompK, z_CeK, z_WrK, z_At, z_MkK]
  exact Du.g_notInO
theorem g_lenO : ∀ (h : Ge f s (fun d s => At s fun sl ce n0 => ∃ fs, instF c0 ce d = some fs ∧ Gf (m [d] ce) ⟨sl, ce, n0⟩ noL noI (fun r s => ∃ i, r = .int i ∧ 0 ≤ i ∧ i < 1000000 ∧ k (.int i) s) x) x), Gn (dLenO c0 m f) s kl ki k x := by
  simp only [z_Gr, z_Gn, z_Ge, z_GrA, z_Ga, z_GrB, z_Gb, z_GrI, z_Gi, z_GrP, z_Gp, z_Gq, z_Gf, z_GrO, z_Gs, z_Br, z_Gm, z_Run, z_Ret, z_Fs, z_SetK, z_TgK, z_CompK, z_CeK, z_WrK, z_At, z_MkK]
  exact Du.g_lenO
theorem g_mt : ∀ {lk : List Cell → D → Bool} {mm : List Cell → D → List D → Mo} (h : Ge f s (fun d s => At s fun sl ce n0 => lk ce d = true ∧ Ga ga ⟨sl, ce, n0⟩ (fun ds s => At s fun sl ce n0 => Gm (mm ce d ds) ⟨sl, ce, n0⟩ kl k) x) x), Gn (dMt lk mm f ga) s kl ki k x := by
  simp only [z_Gr, z_Gn, z_Ge, z_GrA, z_Ga, z_GrB, z_Gb, z_GrI, z_Gi, z_GrP, z_Gp, z_Gq, z_Gf, z_GrO, z_Gs, z_Br, z_Gm, z_Run, z_Ret, z_Fs, z_SetK, z_TgK, z_CompK, z_CeK, z_WrK, z_At, z_MkK]
  exact Du.g_mt
theorem g_app' : ∀ {xs : List D} {d : D} (e : ce[j]? = some (.lst xs)) (hl : xs.length < 100000) (h : WrK j (.lst (xs ++ [d])) ⟨sl, ce, n0⟩ (k .non)), Gm (mApp ce (.rf j) [d]) ⟨sl, ce, n0⟩ kl k := by
  simp only [z_Gr, z_Gn, z_Ge, z_GrA, z_Ga, z_GrB, z_Gb, z_GrI, z_Gi, z_GrP, z_Gp, z_Gq, z_Gf, z_GrO, z_Gs, z_Br, z_Gm, z_Run, z_Ret, z_Fs, z_SetK, z_TgK, z_CompK, z_CeK, z_WrK, z_At, z_MkK]
  exact Du.g_app'
theorem g_ext' : ∀ {xs ys : List D} (e : ce[j]? = some (.lst xs)) (hl : xs.length + ys.length ≤ 100000) (h : WrK j (.lst (xs ++ ys)) ⟨sl, ce, n0⟩ (k .non)), Gm (mExt ce (.rf j) [.lst ys]) ⟨sl, ce, n0⟩ kl k := by
  simp only [z_Gr, z_Gn, z_Ge, z_GrA, z_Ga, z_GrB, z_Gb, z_GrI, z_Gi, z_GrP, z_Gp, z_Gq, z_Gf, z_GrO, z_Gs, z_Br, z_Gm, z_Run, z_Ret, z_Fs, z_SetK, z_TgK, z_CompK, z_CeK, z_WrK, z_At, z_MkK]
  exact Du.g_ext'
@[irreducible] noncomputable def GetK := @Du.GetK
theorem z_GetK : @GetK = @Du.GetK := by
  delta GetK
  rfl
theorem g_getD : ∀ {fo fk fx : DE} (h : Ge fo s (fun o s => At s fun sl ce n0 => isDic ce o = true ∧ Ge fk ⟨sl, ce, n0⟩ (fun y s => Ge fx s (fun z s => GetK o y z s k) x) x) x), Gn (dGetD fo fk fx) s kl ki k x := by
  simp only [z_Gr, z_Gn, z_Ge, z_GrA, z_Ga, z_GrB, z_Gb, z_GrI, z_Gi, z_GrP, z_Gp, z_Gq, z_Gf, z_GrO, z_Gs, z_Br, z_Gm, z_Run, z_Ret, z_Fs, z_SetK, z_TgK, z_CompK, z_CeK, z_WrK, z_At, z_MkK, z_GetK]
  exact Du.g_getD
theorem getk : ∀ {kvs : List (Key × D)} {y z : D} {ky : Key} (e : ce[j]? = some (.dic kvs)) (ek : keyD y = some ky) (h : k ((valKD kvs ky).getD z) ⟨sl, ce, n0⟩), GetK (.rf j) y z ⟨sl, ce, n0⟩ k := by
  simp only [z_Gr, z_Gn, z_Ge, z_GrA, z_Ga, z_GrB, z_Gb, z_GrI, z_Gi, z_GrP, z_Gp, z_Gq, z_Gf, z_GrO, z_Gs, z_Br, z_Gm, z_Run, z_Ret, z_Fs, z_SetK, z_TgK, z_CompK, z_CeK, z_WrK, z_At, z_MkK, z_GetK]
  exact Du.getk
@[irreducible] noncomputable def SubK := @Du.SubK
theorem z_SubK : @SubK = @Du.SubK := by
  delta SubK
  rfl
theorem g_subD : ∀ {fo fk : DE} (h : Ge fo s (fun o s => Ge fk s (fun y s => SubK o y s k) x) x), Gn (dSubD fo fk) s kl ki k x := by
  simp only [z_Gr, z_Gn, z_Ge, z_GrA, z_Ga, z_GrB, z_Gb, z_GrI, z_Gi, z_GrP, z_Gp, z_Gq, z_Gf, z_GrO, z_Gs, z_Br, z_Gm, z_Run, z_Ret, z_Fs, z_SetK, z_TgK, z_CompK, z_CeK, z_WrK, z_At, z_MkK, z_GetK, z_SubK]
  exact Du.g_subD
theorem subk : ∀ {kvs : List (Key × D)} {y : D} {ky : Key} {z : D} (e : ce[j]? = some (.dic kvs)) (ek : keyD y = some ky) (ev : valKD kvs ky = some z) (h : k z ⟨sl, ce, n0⟩), SubK (.rf j) y ⟨sl, ce, n0⟩ k := by
  simp only [z_Gr, z_Gn, z_Ge, z_GrA, z_Ga, z_GrB, z_Gb, z_GrI, z_Gi, z_GrP, z_Gp, z_Gq, z_Gf, z_GrO, z_Gs, z_Br, z_Gm, z_Run, z_Ret, z_Fs, z_SetK, z_TgK, z_CompK, z_CeK, z_WrK, z_At, z_MkK, z_GetK, z_SubK]
  exact Du.subk
theorem g_sortSet : ∀ (h : Ge f s (fun d s => At s fun sl ce n0 => ∃ ns : List Int, look ce d = some (ns.map .int) ∧ ns.length < 64 ∧ kl ((sset ns).map .int) ⟨sl, ce, n0⟩) x), Gn (dSortSet f) s kl ki k x := by
  simp only [z_Gr, z_Gn, z_Ge, z_GrA, z_Ga, z_GrB, z_Gb, z_GrI, z_Gi, z_GrP, z_Gp, z_Gq, z_Gf, z_GrO, z_Gs, z_Br, z_Gm, z_Run, z_Ret, z_Fs, z_SetK, z_TgK, z_CompK, z_CeK, z_WrK, z_At, z_MkK, z_GetK, z_SubK]
  exact Du.g_sortSet
theorem g_setF' : ∀ {c0 : Nat} {nm : Str} {fo fv : DE} (h : Ge fv s (fun d s => Ge fo s (fun o s => At s fun sl ce n0 => ∃ j fs, o = .rf j ∧ ce[j]? = some (.ins c0 fs) ∧ fs.length < 900 ∧ WrK j (.ins c0 (putFD nm d fs)) ⟨sl, ce, n0⟩ nx) x) x), Gs (sSetF c0 nm fo fv) s nx bk ct rt x := by
  simp only [z_Gr, z_Gn, z_Ge, z_GrA, z_Ga, z_GrB, z_Gb, z_GrI, z_Gi, z_GrP, z_Gp, z_Gq, z_Gf, z_GrO, z_Gs, z_Br, z_Gm, z_Run, z_Ret, z_Fs, z_SetK, z_TgK, z_CompK, z_CeK, z_WrK, z_At, z_MkK, z_GetK, z_SubK]
  exact Du.g_setF'
theorem g_setI' : ∀ {fo fi fv : DE} (h : Ge fv s (fun d s => Ge fo s (fun o s => Ge fi s (fun ix s => At s fun sl ce n0 => ∃ j xs i n, o = .rf j ∧ ix = .int i ∧ ce[j]? = some (.lst xs) ∧ ixN xs.length i = some n ∧ WrK j (.lst (xs.set n d)) ⟨sl, ce, n0⟩ nx) x) x) x), Gs (sSetI fo fi fv) s nx bk ct rt x := by
  simp only [z_Gr, z_Gn, z_Ge, z_GrA, z_Ga, z_GrB, z_Gb, z_GrI, z_Gi, z_GrP, z_Gp, z_Gq, z_Gf, z_GrO, z_Gs, z_Br, z_Gm, z_Run, z_Ret, z_Fs, z_SetK, z_TgK, z_CompK, z_CeK, z_WrK, z_At, z_MkK, z_GetK, z_SubK]
  exact Du.g_setI'
theorem g_putD' : ∀ {fo fk fv : DE} (h : Ge fv s (fun d s => Ge fo s (fun o s => Ge fk s (fun y s => At s fun sl ce n0 => ∃ j kvs ky, o = .rf j ∧ ce[j]? = some (.dic kvs) ∧ keyD y = some ky ∧ kvs.length < 100000 ∧ WrK j (.dic (putKD kvs ky d)) ⟨sl, ce, n0⟩ nx) x) x) x), Gs (sPutD fo fk fv) s nx bk ct rt x := by
  simp only [z_Gr, z_Gn, z_Ge, z_GrA, z_Ga, z_GrB, z_Gb, z_GrI, z_Gi, z_GrP, z_Gp, z_Gq, z_Gf, z_GrO, z_Gs, z_Br, z_Gm, z_Run, z_Ret, z_Fs, z_SetK, z_TgK, z_CompK, z_CeK, z_WrK, z_At, z_MkK, z_GetK, z_SubK]
  exact Du.g_putD'
theorem g_aug' : ∀ {kk : Int → Int → Int} {u : Int} [h0 : GetN sl i (.int u)] (h : Ge f ⟨sl, ce, n0⟩ (fun d s => ∃ v, d = .int v ∧ SetK i (.int (kk u v)) s nx) x), Gs (sAug i kk f) ⟨sl, ce, n0⟩ nx bk ct rt x := by
  simp only [z_Gr, z_Gn, z_Ge, z_GrA, z_Ga, z_GrB, z_Gb, z_GrI, z_Gi, z_GrP, z_Gp, z_Gq, z_Gf, z_GrO, z_Gs, z_Br, z_Gm, z_Run, z_Ret, z_Fs, z_SetK, z_TgK, z_CompK, z_CeK, z_WrK, z_At, z_MkK, z_GetK, z_SubK]
  exact Du.g_aug'
end
theorem q_isi' : ∀ {kl : KL'} {k : KD} {s : S} {ce : List Cell} {a : D} {ok ans : TyT → Bool} {t : TyT} {v : Bool} (e : tyD ce a = some t) (e2 : ok t = true) (e3 : ans t = v) (h : k (.bl v) s), Gq (isiD ok ans ce a) s kl k := by
  simp only [z_Gr, z_Gn, z_Ge, z_GrA, z_Ga, z_GrB, z_Gb, z_GrI, z_Gi, z_GrP, z_Gp, z_Gq, z_Gf, z_GrO, z_Gs, z_Br, z_Gm, z_Run, z_Ret, z_Fs, z_SetK, z_TgK, z_CompK, z_CeK, z_WrK, z_At, z_MkK, z_GetK, z_SubK]
  exact Du.q_isi'
section
variable {kl : KL'} {ki : KI'} {k : KD} {x : KX} {s : S} {f g : DE} {ga : DA} {d a b c : D} {i j n : Nat} {m : Fn} {c0 : Nat} {sl : List (Option D)} {ce : List Cell} {n0 : Nat} {nx bk ct : KS} {rt : R → Prop} {p : Prop} {ds xs : List D} {fs fs' : List (Str × D)}
@[irreducible] noncomputable def PikK := @Du.PikK
theorem z_PikK : @PikK = @Du.PikK := by
  delta PikK
  rfl
theorem pikk : ∀ {nk l0 : Nat} {ix : List Nat} {l : List D} [h0 : PickN ix ds l] (e : l0 = nk) (e2 : l.length = n) (h : Gf (m l ce) ⟨sl, ce, n0⟩ kl ki k x), PikK n nk m ix ds ⟨sl, ce, n0⟩ kl ki k x l0 := by
  simp only [z_Gr, z_Gn, z_Ge, z_GrA, z_Ga, z_GrB, z_Gb, z_GrI, z_Gi, z_GrP, z_Gp, z_Gq, z_Gf, z_GrO, z_Gs, z_Br, z_Gm, z_Run, z_Ret, z_Fs, z_SetK, z_TgK, z_CompK, z_CeK, z_WrK, z_At, z_MkK, z_GetK, z_SubK, z_PikK]
  exact Du.pikk
theorem g_callK' : ∀ {nk : Nat} {ix : List Nat} (h : Ga ga s (fun ds s => PikK n nk m ix ds s kl ki k x ds.length) x), Gn (dCallK n nk m ix ga) s kl ki k x := by
  simp only [z_Gr, z_Gn, z_Ge, z_GrA, z_Ga, z_GrB, z_Gb, z_GrI, z_Gi, z_GrP, z_Gp, z_Gq, z_Gf, z_GrO, z_Gs, z_Br, z_Gm, z_Run, z_Ret, z_Fs, z_SetK, z_TgK, z_CompK, z_CeK, z_WrK, z_At, z_MkK, z_GetK, z_SubK, z_PikK]
  exact Du.g_callK'
theorem g_methK' : ∀ {nk : Nat} {nm : Str} {ix : List Nat} (h : Ge f s (fun d s => At s fun sl ce n0 => ∃ fs, instF c0 ce d = some fs ∧ (fs.lookup nm).isNone = true ∧ Ga ga ⟨sl, ce, n0⟩ (fun ds s => PikK n nk m ix (d :: ds) s kl ki k x ds.length) x) x), Gn (dMethK c0 n nk nm m ix f ga) s kl ki k x := by
  simp only [z_Gr, z_Gn, z_Ge, z_GrA, z_Ga, z_GrB, z_Gb, z_GrI, z_Gi, z_GrP, z_Gp, z_Gq, z_Gf, z_GrO, z_Gs, z_Br, z_Gm, z_Run, z_Ret, z_Fs, z_SetK, z_TgK, z_CompK, z_CeK, z_WrK, z_At, z_MkK, z_GetK, z_SubK, z_PikK]
  exact Du.g_methK'
@[irreducible] noncomputable def ForK := @Du.ForK
theorem z_ForK : @ForK = @Du.ForK := by
  delta ForK
  rfl
theorem g_for' : ∀ {it : DI} {t : DT} {body : DS} (h : Gi it s (fun xs s => ForK t body xs s nx rt x) x), Gs (sFor it t body) s nx bk ct rt x := by
  simp only [z_Gr, z_Gn, z_Ge, z_GrA, z_Ga, z_GrB, z_Gb, z_GrI, z_Gi, z_GrP, z_Gp, z_Gq, z_Gf, z_GrO, z_Gs, z_Br, z_Gm, z_Run, z_Ret, z_Fs, z_SetK, z_TgK, z_CompK, z_CeK, z_WrK, z_At, z_MkK, z_GetK, z_SubK, z_PikK, z_ForK]
  exact Du.g_for'
theorem for_inv : ∀ {t : DT} {body : DS} (I : Nat → S → Prop) (h0 : I 0 s) (hs : ∀ j d s, xs[j]? = some d → I j s → TgK t d s fun s => Gs body s (I (j + 1)) nx (I (j + 1)) rt x) (hd : ∀ s, I xs.length s → nx s), ForK t body xs s nx rt x := by
  simp only [z_Gr, z_Gn, z_Ge, z_GrA, z_Ga, z_GrB, z_Gb, z_GrI, z_Gi, z_GrP, z_Gp, z_Gq, z_Gf, z_GrO, z_Gs, z_Br, z_Gm, z_Run, z_Ret, z_Fs, z_SetK, z_TgK, z_CompK, z_CeK, z_WrK, z_At, z_MkK, z_GetK, z_SubK, z_PikK, z_ForK]
  exact Du.for_inv
end
section
variable {ce ce' own : List Cell} {j i : Nat} {c c' d : Cell}
end
end Dv
namespace Dv
open PySem PySem.Spec PyProof.Rows L2
section
variable {kl : KL'} {ki : KI'} {k : KD} {x : KX} {s : S} {f g : DE} {ga : DA} {d a b : D} {i j n : Nat} {sl sl' : List (Option D)} {ce : List Cell} {n0 : Nat} {t : DT} {vs : List Nat} {c : DB} {xs : List D} {ns : List Int}
theorem g_compV : ∀ [h0 : GetN sl i (.lst xs)] (h : CompK t vs c f xs ⟨sl, ce, n0⟩ kl), Gn (dCompV i t vs c f) ⟨sl, ce, n0⟩ kl ki k x := by
  simp only [z_Gr, z_Gn, z_Ge, z_GrA, z_Ga, z_GrB, z_Gb, z_GrI, z_Gi, z_GrP, z_Gp, z_Gq, z_Gf, z_GrO, z_Gs, z_Br, z_Gm, z_Run, z_Ret, z_Fs, z_SetK, z_TgK, z_CompK, z_CeK, z_WrK, z_At, z_MkK, z_GetK, z_SubK, z_PikK, z_ForK]
  exact Du.g_compV
theorem g_compVr : ∀ [h0 : GetN sl i (.ro xs)] (h : CompK t vs c f xs ⟨sl, ce, n0⟩ kl), Gn (dCompV i t vs c f) ⟨sl, ce, n0⟩ kl ki k x := by
  simp only [z_Gr, z_Gn, z_Ge, z_GrA, z_Ga, z_GrB, z_Gb, z_GrI, z_Gi, z_GrP, z_Gp, z_Gq, z_Gf, z_GrO, z_Gs, z_Br, z_Gm, z_Run, z_Ret, z_Fs, z_SetK, z_TgK, z_CompK, z_CeK, z_WrK, z_At, z_MkK, z_GetK, z_SubK, z_PikK, z_ForK]
  exact Du.g_compVr
theorem TgK.m : ∀ {t : DT} {d : D} {s : S} {nx nx' : KS} (h : TgK t d s nx) (m : ∀ s, nx s → nx' s), TgK t d s nx' := by
  simp only [z_Gr, z_Gn, z_Ge, z_GrA, z_Ga, z_GrB, z_Gb, z_GrI, z_Gi, z_GrP, z_Gp, z_Gq, z_Gf, z_GrO, z_Gs, z_Br, z_Gm, z_Run, z_Ret, z_Fs, z_SetK, z_TgK, z_CompK, z_CeK, z_WrK, z_At, z_MkK, z_GetK, z_SubK, z_PikK, z_ForK]
  exact Du.TgK.m
theorem comp_ints : ∀ (p : Int → Bool) (g : Int → D) [hw : WipN sl vs sl'] (hl : ns.length ≤ 100000)
    (h : ∀ n ∈ ns, TgK t (.int n) ⟨sl', ce, ce.length⟩ fun s1 => Gb c s1 (fun b s2 => b = p n ∧ (p n = true → Ge f s2 (fun v s3 => v = g n ∧ s3.ce = ce) FX) ∧ (p n = false → s2.ce = ce)) FX)
    (hd : kl ((ns.filter p).map g) ⟨sl, ce, n0⟩), CompK t vs c f (ns.map .int) ⟨sl, ce, n0⟩ kl := by
  simp only [z_Gr, z_Gn, z_Ge, z_GrA, z_Ga, z_GrB, z_Gb, z_GrI, z_Gi, z_GrP, z_Gp, z_Gq, z_Gf, z_GrO, z_Gs, z_Br, z_Gm, z_Run, z_Ret, z_Fs, z_SetK, z_TgK, z_CompK, z_CeK, z_WrK, z_At, z_MkK, z_GetK, z_SubK, z_PikK, z_ForK]
  exact Du.comp_ints
theorem comp_intsA : ∀ (g : Int → D) [hw : WipN sl vs sl'] (hl : ns.length ≤ 100000)
    (h : ∀ n ∈ ns, TgK t (.int n) ⟨sl', ce, ce.length⟩ fun s1 => Ge f s1 (fun v s3 => v = g n ∧ s3.ce = ce) FX)
    (hd : kl (ns.map g) ⟨sl, ce, n0⟩), CompK t vs bYes f (ns.map .int) ⟨sl, ce, n0⟩ kl := by
  simp only [z_Gr, z_Gn, z_Ge, z_GrA, z_Ga, z_GrB, z_Gb, z_GrI, z_Gi, z_GrP, z_Gp, z_Gq, z_Gf, z_GrO, z_Gs, z_Br, z_Gm, z_Run, z_Ret, z_Fs, z_SetK, z_TgK, z_CompK, z_CeK, z_WrK, z_At, z_MkK, z_GetK, z_SubK, z_PikK, z_ForK]
  exact Du.comp_intsA
theorem comp_any : ∀ (p : D → Bool) (g : D → D) [hw : WipN sl vs sl'] (hl : xs.length ≤ 100000)
    (h : ∀ d ∈ xs, TgK t d ⟨sl', ce, ce.length⟩ fun s1 => Gb c s1 (fun b s2 => b = p d ∧ (p d = true → Ge f s2 (fun v s3 => v = g d ∧ s3.ce = ce) FX) ∧ (p d = false → s2.ce = ce)) FX)
    (hd : kl ((xs.filter p).map g) ⟨sl, ce, n0⟩), CompK t vs c f xs ⟨sl, ce, n0⟩ kl := by
  simp only [z_Gr, z_Gn, z_Ge, z_GrA, z_Ga, z_GrB, z_Gb, z_GrI, z_Gi, z_GrP, z_Gp, z_Gq, z_Gf, z_GrO, z_Gs, z_Br, z_Gm, z_Run, z_Ret, z_Fs, z_SetK, z_TgK, z_CompK, z_CeK, z_WrK, z_At, z_MkK, z_GetK, z_SubK, z_PikK, z_ForK]
  exact Du.comp_any
theorem comp_anyA : ∀ (g : D → D) [hw : WipN sl vs sl'] (hl : xs.length ≤ 100000)
    (h : ∀ d ∈ xs, TgK t d ⟨sl', ce, ce.length⟩ fun s1 => Ge f s1 (fun v s3 => v = g d ∧ s3.ce = ce) FX)
    (hd : kl (xs.map g) ⟨sl, ce, n0⟩), CompK t vs bYes f xs ⟨sl, ce, n0⟩ kl := by
  simp only [z_Gr, z_Gn, z_Ge, z_GrA, z_Ga, z_GrB, z_Gb, z_GrI, z_Gi, z_GrP, z_Gp, z_Gq, z_Gf, z_GrO, z_Gs, z_Br, z_Gm, z_Run, z_Ret, z_Fs, z_SetK, z_TgK, z_CompK, z_CeK, z_WrK, z_At, z_MkK, z_GetK, z_SubK, z_PikK, z_ForK]
  exact Du.comp_anyA
theorem comp_fam : ∀ {α : Type} (l : List α) (u : α → D) (p : α → Bool) (g : α → D) [hw : WipN sl vs sl'] (hl : l.length ≤ 100000)
    (h : ∀ a ∈ l, TgK t (u a) ⟨sl', ce, ce.length⟩ fun s1 => Gb c s1 (fun b s2 => b = p a ∧ (p a = true → Ge f s2 (fun v s3 => v = g a ∧ s3.ce = ce) FX) ∧ (p a = false → s2.ce = ce)) FX)
    (hd : kl ((l.filter p).map g) ⟨sl, ce, n0⟩), CompK t vs c f (l.map u) ⟨sl, ce, n0⟩ kl := by
  simp only [z_Gr, z_Gn, z_Ge, z_GrA, z_Ga, z_GrB, z_Gb, z_GrI, z_Gi, z_GrP, z_Gp, z_Gq, z_Gf, z_GrO, z_Gs, z_Br, z_Gm, z_Run, z_Ret, z_Fs, z_SetK, z_TgK, z_CompK, z_CeK, z_WrK, z_At, z_MkK, z_GetK, z_SubK, z_PikK, z_ForK]
  exact Du.comp_fam
theorem comp_famA : ∀ {α : Type} (l : List α) (u : α → D) (g : α → D) [hw : WipN sl vs sl'] (hl : l.length ≤ 100000)
    (h : ∀ a ∈ l, TgK t (u a) ⟨sl', ce, ce.length⟩ fun s1 => Ge f s1 (fun v s3 => v = g a ∧ s3.ce = ce) FX)
    (hd : kl (l.map g) ⟨sl, ce, n0⟩), CompK t vs bYes f (l.map u) ⟨sl, ce, n0⟩ kl := by
  simp only [z_Gr, z_Gn, z_Ge, z_GrA, z_Ga, z_GrB, z_Gb, z_GrI, z_Gi, z_GrP, z_Gp, z_Gq, z_Gf, z_GrO, z_Gs, z_Br, z_Gm, z_Run, z_Ret, z_Fs, z_SetK, z_TgK, z_CompK, z_CeK, z_WrK, z_At, z_MkK, z_GetK, z_SubK, z_PikK, z_ForK]
  exact Du.comp_famA
@[irreducible] noncomputable def Comp2K := @Du.Comp2K
theorem z_Comp2K : @Comp2K = @Du.Comp2K := by
  delta Comp2K
  rfl
theorem n_comp2 : ∀ {it it1 : DI} {t1 : DT} {vs1 : List Nat} {c1 : DB} (h : Gi it s (fun xs s => Comp2K t vs c it1 t1 vs1 c1 f xs s kl) x), Gn (dComp2 it t vs c it1 t1 vs1 c1 f) s kl ki k x := by
  simp only [z_Gr, z_Gn, z_Ge, z_GrA, z_Ga, z_GrB, z_Gb, z_GrI, z_Gi, z_GrP, z_Gp, z_Gq, z_Gf, z_GrO, z_Gs, z_Br, z_Gm, z_Run, z_Ret, z_Fs, z_SetK, z_TgK, z_CompK, z_CeK, z_WrK, z_At, z_MkK, z_GetK, z_SubK, z_PikK, z_ForK, z_Comp2K]
  exact Du.n_comp2
theorem comp2_ints : ∀ {as bs : List Int} {i1 t0 t1 : Nat} {vs1 : List Nat} (g : Int → Int → D) (hl : as.length * bs.length ≤ 100000)
    (h : ∀ a ∈ as, ∃ s1, tgN t0 (.int a) ⟨wipeD sl vs, ce, ce.length⟩ = some s1 ∧ s1.ce = ce ∧ s1.sl[i1]? = some (some (lI bs)) ∧
      ∀ b ∈ bs, TgK (tgN t1) (.int b) ⟨wipeD s1.sl vs1, ce, ce.length⟩ fun s2 => Ge f s2 (fun v s3 => v = g a b ∧ s3 = s2) FX)
    (hd : kl (as.map fun a => bs.map (g a)).flatten ⟨sl, ce, n0⟩), Comp2K (tgN t0) vs bYes (iL (dVar i1)) (tgN t1) vs1 bYes f (as.map .int) ⟨sl, ce, n0⟩ kl := by
  simp only [z_Gr, z_Gn, z_Ge, z_GrA, z_Ga, z_GrB, z_Gb, z_GrI, z_Gi, z_GrP, z_Gp, z_Gq, z_Gf, z_GrO, z_Gs, z_Br, z_Gm, z_Run, z_Ret, z_Fs, z_SetK, z_TgK, z_CompK, z_CeK, z_WrK, z_At, z_MkK, z_GetK, z_SubK, z_PikK, z_ForK, z_Comp2K]
  exact Du.comp2_ints
end
section
variable {kl : KL'} {ki : KI'} {k : KD} {x : KX} {i j c : Nat} {sl : List (Option D)} {ce : List Cell} {n0 : Nat} {fs : List (Str × D)} {xs : List D}
theorem g_shareI : ∀ [h0 : GetN sl i (.rf j)] (hj : n0 ≤ j) (e : ce[j]? = some (.ins c fs)) (h : SetK i (.obj c fs) ⟨sl, ce, n0⟩ fun s => WrK j .gone s (k (.obj c fs))), Gn (dShare i) ⟨sl, ce, n0⟩ kl ki k x := by
  simp only [z_Gr, z_Gn, z_Ge, z_GrA, z_Ga, z_GrB, z_Gb, z_GrI, z_Gi, z_GrP, z_Gp, z_Gq, z_Gf, z_GrO, z_Gs, z_Br, z_Gm, z_Run, z_Ret, z_Fs, z_SetK, z_TgK, z_CompK, z_CeK, z_WrK, z_At, z_MkK, z_GetK, z_SubK, z_PikK, z_ForK, z_Comp2K]
  exact Du.g_shareI
theorem g_shareL : ∀ [h0 : GetN sl i (.rf j)] (hj : n0 ≤ j) (e : ce[j]? = some (.lst xs)) (h : SetK i (.lst xs) ⟨sl, ce, n0⟩ fun s => WrK j .gone s (k (.lst xs))), Gn (dShare i) ⟨sl, ce, n0⟩ kl ki k x := by
  simp only [z_Gr, z_Gn, z_Ge, z_GrA, z_Ga, z_GrB, z_Gb, z_GrI, z_Gi, z_GrP, z_Gp, z_Gq, z_Gf, z_GrO, z_Gs, z_Br, z_Gm, z_Run, z_Ret, z_Fs, z_SetK, z_TgK, z_CompK, z_CeK, z_WrK, z_At, z_MkK, z_GetK, z_SubK, z_PikK, z_ForK, z_Comp2K]
  exact Du.g_shareL
end
@[irreducible] noncomputable def PutK := @Du.PutK
theorem z_PutK : @PutK = @Du.PutK := by
  delta PutK
  rfl
theorem putk : ∀ {j c0 : Nat} {fs gs : List (Str × D)} {nm : Str} {d : D} {s : S} {nx : KS} [h0 : PutF fs nm d gs] (h : WrK j (.ins c0 gs) s nx), PutK j c0 fs nm d s nx := by
  simp only [z_Gr, z_Gn, z_Ge, z_GrA, z_Ga, z_GrB, z_Gb, z_GrI, z_Gi, z_GrP, z_Gp, z_Gq, z_Gf, z_GrO, z_Gs, z_Br, z_Gm, z_Run, z_Ret, z_Fs, z_SetK, z_TgK, z_CompK, z_CeK, z_WrK, z_At, z_MkK, z_GetK, z_SubK, z_PikK, z_ForK, z_Comp2K, z_PutK]
  exact Du.putk
theorem x_setF : ∀ {j c0 : Nat} {ce : List Cell} {fs : List (Str × D)} {nm : Str} {d : D} {s : S} {nx : KS} (e : ce[j]? = some (.ins c0 fs)) (hl : fs.length < 900) (h : PutK j c0 fs nm d s nx), ∃ j' fs', D.rf j = .rf j' ∧ ce[j']? = some (.ins c0 fs') ∧ fs'.length < 900 ∧ WrK j' (.ins c0 (putFD nm d fs')) s nx := by
  simp only [z_Gr, z_Gn, z_Ge, z_GrA, z_Ga, z_GrB, z_Gb, z_GrI, z_Gi, z_GrP, z_Gp, z_Gq, z_Gf, z_GrO, z_Gs, z_Br, z_Gm, z_Run, z_Ret, z_Fs, z_SetK, z_TgK, z_CompK, z_CeK, z_WrK, z_At, z_MkK, z_GetK, z_SubK, z_PikK, z_ForK, z_Comp2K, z_PutK]
  exact Du.x_setF
end Dv
namespace Dv
open PySem PySem.Spec PyProof.Rows L2
section
variable {nx bk ct : KS} {rt : R → Prop} {x : KX} {c : DB} {b : DS} {s : S}
@[irreducible] noncomputable def WhK := @Du.WhK
theorem z_WhK : @WhK = @Du.WhK := by
  delta WhK
  rfl
theorem wl_go : ∀ (I : S → Prop) (μ : S → Nat) (h : ∀ s, I s → Gb c s (fun t s1 => Br t (Gs b s1 (fun s2 => I s2 ∧ μ s2 < μ s) nx (fun s2 => I s2 ∧ μ s2 < μ s) rt x) (nx s1)) x), ∀ (k : Nat) (s : S), I s → μ s ≤ k → ∃ n, GrO (wl c b n s) nx bk ct rt x := by
  simp only [z_Gr, z_Gn, z_Ge, z_GrA, z_Ga, z_GrB, z_Gb, z_GrI, z_Gi, z_GrP, z_Gp, z_Gq, z_Gf, z_GrO, z_Gs, z_Br, z_Gm, z_Run, z_Ret, z_Fs, z_SetK, z_TgK, z_CompK, z_CeK, z_WrK, z_At, z_MkK, z_GetK, z_SubK, z_PikK, z_ForK, z_Comp2K, z_PutK, z_WhK]
  exact Du.wl_go
theorem g_while : ∀ (h : WhK c b s nx rt x), Gs (sWhile c b) s nx bk ct rt x := by
  simp only [z_Gr, z_Gn, z_Ge, z_GrA, z_Ga, z_GrB, z_Gb, z_GrI, z_Gi, z_GrP, z_Gp, z_Gq, z_Gf, z_GrO, z_Gs, z_Br, z_Gm, z_Run, z_Ret, z_Fs, z_SetK, z_TgK, z_CompK, z_CeK, z_WrK, z_At, z_MkK, z_GetK, z_SubK, z_PikK, z_ForK, z_Comp2K, z_PutK, z_WhK]
  exact Du.g_while
theorem while_inv : ∀ (I : S → Prop) (μ : S → Nat) (h0 : I s) (h : ∀ s, I s → Gb c s (fun t s1 => Br t (Gs b s1 (fun s2 => I s2 ∧ μ s2 < μ s) nx (fun s2 => I s2 ∧ μ s2 < μ s) rt x) (nx s1)) x), WhK c b s nx rt x := by
  simp only [z_Gr, z_Gn, z_Ge, z_GrA, z_Ga, z_GrB, z_Gb, z_GrI, z_Gi, z_GrP, z_Gp, z_Gq, z_Gf, z_GrO, z_Gs, z_Br, z_Gm, z_Run, z_Ret, z_Fs, z_SetK, z_TgK, z_CompK, z_CeK, z_WrK, z_At, z_MkK, z_GetK, z_SubK, z_PikK, z_ForK, z_Comp2K, z_PutK, z_WhK]
  exact Du.while_inv
end
section
variable {kl : KL'} {k : KD} {s : S} {ce : List Cell} {i : Int} {j : Nat} {d : D} {xs : List D} {ns : List Int} {bs : List Bool}
theorem q_powL : ∀ {i j v : Int} (hb : 0 ≤ j ∧ ((bits i : Int) + 1) * j ≤ 134217728) (e : i ^ j.toNat = v) (h : k (.int v) s), Gq (pPow ce (.int i) (.int j)) s kl k := by
  simp only [z_Gr, z_Gn, z_Ge, z_GrA, z_Ga, z_GrB, z_Gb, z_GrI, z_Gi, z_GrP, z_Gp, z_Gq, z_Gf, z_GrO, z_Gs, z_Br, z_Gm, z_Run, z_Ret, z_Fs, z_SetK, z_TgK, z_CompK, z_CeK, z_WrK, z_At, z_MkK, z_GetK, z_SubK, z_PikK, z_ForK, z_Comp2K, z_PutK, z_WhK]
  exact Du.q_powL
theorem q_ixC : ∀ (e : ce[j]? = some (.lst xs)) (e2 : atI xs i = some d) (h : k d s), Gq (pIx ce (.rf j) (.int i)) s kl k := by
  simp only [z_Gr, z_Gn, z_Ge, z_GrA, z_Ga, z_GrB, z_Gb, z_GrI, z_Gi, z_GrP, z_Gp, z_Gq, z_Gf, z_GrO, z_Gs, z_Br, z_Gm, z_Run, z_Ret, z_Fs, z_SetK, z_TgK, z_CompK, z_CeK, z_WrK, z_At, z_MkK, z_GetK, z_SubK, z_PikK, z_ForK, z_Comp2K, z_PutK, z_WhK]
  exact Du.q_ixC
theorem q_lenC : ∀ (e : ce[j]? = some (.lst xs)) (h : k (.int (xs.length : Nat)) s), Gq (b1 lenD ce [.rf j]) s kl k := by
  simp only [z_Gr, z_Gn, z_Ge, z_GrA, z_Ga, z_GrB, z_Gb, z_GrI, z_Gi, z_GrP, z_Gp, z_Gq, z_Gf, z_GrO, z_Gs, z_Br, z_Gm, z_Run, z_Ret, z_Fs, z_SetK, z_TgK, z_CompK, z_CeK, z_WrK, z_At, z_MkK, z_GetK, z_SubK, z_PikK, z_ForK, z_Comp2K, z_PutK, z_WhK]
  exact Du.q_lenC
theorem q_listC : ∀ (e : ce[j]? = some (.lst xs)) (h : kl xs s), Gq (b1 listD ce [.rf j]) s kl k := by
  simp only [z_Gr, z_Gn, z_Ge, z_GrA, z_Ga, z_GrB, z_Gb, z_GrI, z_Gi, z_GrP, z_Gp, z_Gq, z_Gf, z_GrO, z_Gs, z_Br, z_Gm, z_Run, z_Ret, z_Fs, z_SetK, z_TgK, z_CompK, z_CeK, z_WrK, z_At, z_MkK, z_GetK, z_SubK, z_PikK, z_ForK, z_Comp2K, z_PutK, z_WhK]
  exact Du.q_listC
theorem q_sortedC : ∀ (e : ce[j]? = some (.lst (ns.map .int))) (h : kl ((isortI ns).map .int) s), Gq (b1 sortedD ce [.rf j]) s kl k := by
  simp only [z_Gr, z_Gn, z_Ge, z_GrA, z_Ga, z_GrB, z_Gb, z_GrI, z_Gi, z_GrP, z_Gp, z_Gq, z_Gf, z_GrO, z_Gs, z_Br, z_Gm, z_Run, z_Ret, z_Fs, z_SetK, z_TgK, z_CompK, z_CeK, z_WrK, z_At, z_MkK, z_GetK, z_SubK, z_PikK, z_ForK, z_Comp2K, z_PutK, z_WhK]
  exact Du.q_sortedC
theorem q_sumC : ∀ (e : ce[j]? = some (.lst (ns.map .int))) (h : k (.int ns.sum) s), Gq (b1 sumD ce [.rf j]) s kl k := by
  simp only [z_Gr, z_Gn, z_Ge, z_GrA, z_Ga, z_GrB, z_Gb, z_GrI, z_Gi, z_GrP, z_Gp, z_Gq, z_Gf, z_GrO, z_Gs, z_Br, z_Gm, z_Run, z_Ret, z_Fs, z_SetK, z_TgK, z_CompK, z_CeK, z_WrK, z_At, z_MkK, z_GetK, z_SubK, z_PikK, z_ForK, z_Comp2K, z_PutK, z_WhK]
  exact Du.q_sumC
theorem q_allC : ∀ (e : ce[j]? = some (.lst (bs.map .bl))) (h : k (.bl (bs.all id)) s), Gq (b1 allD ce [.rf j]) s kl k := by
  simp only [z_Gr, z_Gn, z_Ge, z_GrA, z_Ga, z_GrB, z_Gb, z_GrI, z_Gi, z_GrP, z_Gp, z_Gq, z_Gf, z_GrO, z_Gs, z_Br, z_Gm, z_Run, z_Ret, z_Fs, z_SetK, z_TgK, z_CompK, z_CeK, z_WrK, z_At, z_MkK, z_GetK, z_SubK, z_PikK, z_ForK, z_Comp2K, z_PutK, z_WhK]
  exact Du.q_allC
theorem m_cnt : ∀ {n : Int} (e : look ce d = some (ns.map .int)) (h : k (.int ((ns.count n : Nat) : Int)) s), Gm (mCnt ce d [.int n]) s kl k := by
  simp only [z_Gr, z_Gn, z_Ge, z_GrA, z_Ga, z_GrB, z_Gb, z_GrI, z_Gi, z_GrP, z_Gp, z_Gq, z_Gf, z_GrO, z_Gs, z_Br, z_Gm, z_Run, z_Ret, z_Fs, z_SetK, z_TgK, z_CompK, z_CeK, z_WrK, z_At, z_MkK, z_GetK, z_SubK, z_PikK, z_ForK, z_Comp2K, z_PutK, z_WhK]
  exact Du.m_cnt
theorem n_sortSetG : ∀ {ki : KI'} {x : KX} {f : DE} {s : S} (h : Ge f s (fun d s => At s fun sl ce n0 => ∃ ns : List Int, look ce d = some (ns.map .int) ∧ ns.length < 4000 ∧ kl ((sset ns).map .int) ⟨sl, ce, n0⟩) x), Gn (dSortSetG f) s kl ki k x := by
  simp only [z_Gr, z_Gn, z_Ge, z_GrA, z_Ga, z_GrB, z_Gb, z_GrI, z_Gi, z_GrP, z_Gp, z_Gq, z_Gf, z_GrO, z_Gs, z_Br, z_Gm, z_Run, z_Ret, z_Fs, z_SetK, z_TgK, z_CompK, z_CeK, z_WrK, z_At, z_MkK, z_GetK, z_SubK, z_PikK, z_ForK, z_Comp2K, z_PutK, z_WhK]
  exact Du.n_sortSetG
end
theorem wrkF : ∀ {sl : List (Option D)} {ce : List Cell} {n0 j : Nat} {c : Cell} {nx : KS} {f : Cell → List Cell} [h0 : SetF ce j f] (h : nx ⟨sl, f c, n0⟩), WrK j c ⟨sl, ce, n0⟩ nx := by
  simp only [z_Gr, z_Gn, z_Ge, z_GrA, z_Ga, z_GrB, z_Gb, z_GrI, z_Gi, z_GrP, z_Gp, z_Gq, z_Gf, z_GrO, z_Gs, z_Br, z_Gm, z_Run, z_Ret, z_Fs, z_SetK, z_TgK, z_CompK, z_CeK, z_WrK, z_At, z_MkK, z_GetK, z_SubK, z_PikK, z_ForK, z_Comp2K, z_PutK, z_WhK]
  exact Du.wrkF
theorem q_ixP : ∀ {kl : KL'} {k : KD} {s : S} {ce : List Cell} {a : D} {xs : List D} {i : Int} (P : D → Prop) (e : lookU ce a = some xs) (h0 : 0 ≤ i) (h1 : i < xs.length) (hP : ∀ d ∈ xs, P d) (h : ∀ d, P d → k d s), Gq (pIx ce a (.int i)) s kl k := by
  simp only [z_Gr, z_Gn, z_Ge, z_GrA, z_Ga, z_GrB, z_Gb, z_GrI, z_Gi, z_GrP, z_Gp, z_Gq, z_Gf, z_GrO, z_Gs, z_Br, z_Gm, z_Run, z_Ret, z_Fs, z_SetK, z_TgK, z_CompK, z_CeK, z_WrK, z_At, z_MkK, z_GetK, z_SubK, z_PikK, z_ForK, z_Comp2K, z_PutK, z_WhK]
  exact Du.q_ixP
end Dv
namespace Dv
open PySem PySem.Spec PyProof.Rows L2
theorem q_reprR : ∀ {kl : KL'} {k : KD} {s : S} {ce : List Cell} {a : D} {p : PyData} {n w : Nat} (hp : toP3 ce a = some p) (h : Rp n w p) (hn : n ≤ 50) (hw : w ≤ 1000000) (q : k (.str p.shown) s), Gq (b1 reprD ce [a]) s kl k := by
  simp only [z_Gr, z_Gn, z_Ge, z_GrA, z_Ga, z_GrB, z_Gb, z_GrI, z_Gi, z_GrP, z_Gp, z_Gq, z_Gf, z_GrO, z_Gs, z_Br, z_Gm, z_Run, z_Ret, z_Fs, z_SetK, z_TgK, z_CompK, z_CeK, z_WrK, z_At, z_MkK, z_GetK, z_SubK, z_PikK, z_ForK, z_Comp2K, z_PutK, z_WhK]
  exact Du.q_reprR
section
variable {kl : KL'} {k : KD} {s : S} {ce : List Cell} {ns : List Int} {x : Int} {r : List Int}
theorem q_neE : ∀ (h : k (.bl (!decide (ns = []))) s), Gq (pNe ce (.lst (ns.map .int)) (.lst [])) s kl k := by
  simp only [z_Gr, z_Gn, z_Ge, z_GrA, z_Ga, z_GrB, z_Gb, z_GrI, z_Gi, z_GrP, z_Gp, z_Gq, z_Gf, z_GrO, z_Gs, z_Br, z_Gm, z_Run, z_Ret, z_Fs, z_SetK, z_TgK, z_CompK, z_CeK, z_WrK, z_At, z_MkK, z_GetK, z_SubK, z_PikK, z_ForK, z_Comp2K, z_PutK, z_WhK]
  exact Du.q_neE
theorem q_eqE : ∀ (h : k (.bl (decide (ns = []))) s), Gq (pEq ce (.lst (ns.map .int)) (.lst [])) s kl k := by
  simp only [z_Gr, z_Gn, z_Ge, z_GrA, z_Ga, z_GrB, z_Gb, z_GrI, z_Gi, z_GrP, z_Gp, z_Gq, z_Gf, z_GrO, z_Gs, z_Br, z_Gm, z_Run, z_Ret, z_Fs, z_SetK, z_TgK, z_CompK, z_CeK, z_WrK, z_At, z_MkK, z_GetK, z_SubK, z_PikK, z_ForK, z_Comp2K, z_PutK, z_WhK]
  exact Du.q_eqE
theorem q_neE0 : ∀ (h : k (.bl false) s), Gq (pNe ce (.lst ([].map .int)) (.lst [])) s kl k := by
  simp only [z_Gr, z_Gn, z_Ge, z_GrA, z_Ga, z_GrB, z_Gb, z_GrI, z_Gi, z_GrP, z_Gp, z_Gq, z_Gf, z_GrO, z_Gs, z_Br, z_Gm, z_Run, z_Ret, z_Fs, z_SetK, z_TgK, z_CompK, z_CeK, z_WrK, z_At, z_MkK, z_GetK, z_SubK, z_PikK, z_ForK, z_Comp2K, z_PutK, z_WhK]
  exact Du.q_neE0
theorem q_eqE0 : ∀ (h : k (.bl true) s), Gq (pEq ce (.lst ([].map .int)) (.lst [])) s kl k := by
  simp only [z_Gr, z_Gn, z_Ge, z_GrA, z_Ga, z_GrB, z_Gb, z_GrI, z_Gi, z_GrP, z_Gp, z_Gq, z_Gf, z_GrO, z_Gs, z_Br, z_Gm, z_Run, z_Ret, z_Fs, z_SetK, z_TgK, z_CompK, z_CeK, z_WrK, z_At, z_MkK, z_GetK, z_SubK, z_PikK, z_ForK, z_Comp2K, z_PutK, z_WhK]
  exact Du.q_eqE0
theorem q_neE1 : ∀ (h : k (.bl true) s), Gq (pNe ce (.lst ((x :: r).map .int)) (.lst [])) s kl k := by
  simp only [z_Gr, z_Gn, z_Ge, z_GrA, z_Ga, z_GrB, z_Gb, z_GrI, z_Gi, z_GrP, z_Gp, z_Gq, z_Gf, z_GrO, z_Gs, z_Br, z_Gm, z_Run, z_Ret, z_Fs, z_SetK, z_TgK, z_CompK, z_CeK, z_WrK, z_At, z_MkK, z_GetK, z_SubK, z_PikK, z_ForK, z_Comp2K, z_PutK, z_WhK]
  exact Du.q_neE1
theorem q_eqE1 : ∀ (h : k (.bl false) s), Gq (pEq ce (.lst ((x :: r).map .int)) (.lst [])) s kl k := by
  simp only [z_Gr, z_Gn, z_Ge, z_GrA, z_Ga, z_GrB, z_Gb, z_GrI, z_Gi, z_GrP, z_Gp, z_Gq, z_Gf, z_GrO, z_Gs, z_Br, z_Gm, z_Run, z_Ret, z_Fs, z_SetK, z_TgK, z_CompK, z_CeK, z_WrK, z_At, z_MkK, z_GetK, z_SubK, z_PikK, z_ForK, z_Comp2K, z_PutK, z_WhK]
  exact Du.q_eqE1
theorem q_ix1 : ∀ (h : k (.int x) s), Gq (pIx ce (.lst ((x :: r).map .int)) (.int 0)) s kl k := by
  simp only [z_Gr, z_Gn, z_Ge, z_GrA, z_Ga, z_GrB, z_Gb, z_GrI, z_Gi, z_GrP, z_Gp, z_Gq, z_Gf, z_GrO, z_Gs, z_Br, z_Gm, z_Run, z_Ret, z_Fs, z_SetK, z_TgK, z_CompK, z_CeK, z_WrK, z_At, z_MkK, z_GetK, z_SubK, z_PikK, z_ForK, z_Comp2K, z_PutK, z_WhK]
  exact Du.q_ix1
theorem q_reprN : ∀ (h : k (.str (PyData.shown .none)) s), Gq (b1 reprD ce [.non]) s kl k := by
  simp only [z_Gr, z_Gn, z_Ge, z_GrA, z_Ga, z_GrB, z_Gb, z_GrI, z_Gi, z_GrP, z_Gp, z_Gq, z_Gf, z_GrO, z_Gs, z_Br, z_Gm, z_Run, z_Ret, z_Fs, z_SetK, z_TgK, z_CompK, z_CeK, z_WrK, z_At, z_MkK, z_GetK, z_SubK, z_PikK, z_ForK, z_Comp2K, z_PutK, z_WhK]
  exact Du.q_reprN
theorem q_reprI : ∀ {i : Int} {m : Nat} (hi : i.natAbs < 2 ^ m) (hm : m < 1900) (h : k (.str (PyData.shown (.int i))) s), Gq (b1 reprD ce [.int i]) s kl k := by
  simp only [z_Gr, z_Gn, z_Ge, z_GrA, z_Ga, z_GrB, z_Gb, z_GrI, z_Gi, z_GrP, z_Gp, z_Gq, z_Gf, z_GrO, z_Gs, z_Br, z_Gm, z_Run, z_Ret, z_Fs, z_SetK, z_TgK, z_CompK, z_CeK, z_WrK, z_At, z_MkK, z_GetK, z_SubK, z_PikK, z_ForK, z_Comp2K, z_PutK, z_WhK]
  exact Du.q_reprI
end
theorem q_same : ∀ {kl : KL'} {k : KD} {s : S} {ce : List Cell} {d : D} {n : Nat} (h : Ly n d) (hn : n ≤ 64) (q : k (.bl true) s), Gq (pEq ce d d) s kl k := by
  simp only [z_Gr, z_Gn, z_Ge, z_GrA, z_Ga, z_GrB, z_Gb, z_GrI, z_Gi, z_GrP, z_Gp, z_Gq, z_Gf, z_GrO, z_Gs, z_Br, z_Gm, z_Run, z_Ret, z_Fs, z_SetK, z_TgK, z_CompK, z_CeK, z_WrK, z_At, z_MkK, z_GetK, z_SubK, z_PikK, z_ForK, z_Comp2K, z_PutK, z_WhK]
  exact Du.q_same
theorem q_sameN : ∀ {kl : KL'} {k : KD} {s : S} {ce : List Cell} {d : D} {n : Nat} (h : Ly n d) (hn : n ≤ 64) (q : k (.bl false) s), Gq (pNe ce d d) s kl k := by
  simp only [z_Gr, z_Gn, z_Ge, z_GrA, z_Ga, z_GrB, z_Gb, z_GrI, z_Gi, z_GrP, z_Gp, z_Gq, z_Gf, z_GrO, z_Gs, z_Br, z_Gm, z_Run, z_Ret, z_Fs, z_SetK, z_TgK, z_CompK, z_CeK, z_WrK, z_At, z_MkK, z_GetK, z_SubK, z_PikK, z_ForK, z_Comp2K, z_PutK, z_WhK]
  exact Du.q_sameN
theorem comp_invI : ∀ {kl : KL'} {t : DT} {vs : List Nat} {c : DB} {f : DE} {xs : List D} {sl sl' : List (Option D)} {ce : List Cell} {n0 : Nat} [hw : WipN sl vs sl'] (I : Nat → List D → List Cell → Prop) (h0 : I 0 [] ce) (hl : xs.length ≤ 100000)
    (hb : ∀ i acc ce, I i acc ce → acc.length ≤ i)
    (hs : ∀ j d acc ce, xs[j]? = some d → I j acc ce → TgK t d ⟨sl', ce, ce.length⟩ fun s1 => Gb c s1 (fun b s2 => Br b (Ge f s2 (fun v s3 => I (j + 1) (acc ++ [v]) s3.ce) FX) (I (j + 1) acc s2.ce)) FX)
    (hd : ∀ acc ce, I xs.length acc ce → kl acc ⟨sl, ce, n0⟩), CompK t vs c f xs ⟨sl, ce, n0⟩ kl := by
  simp only [z_Gr, z_Gn, z_Ge, z_GrA, z_Ga, z_GrB, z_Gb, z_GrI, z_Gi, z_GrP, z_Gp, z_Gq, z_Gf, z_GrO, z_Gs, z_Br, z_Gm, z_Run, z_Ret, z_Fs, z_SetK, z_TgK, z_CompK, z_CeK, z_WrK, z_At, z_MkK, z_GetK, z_SubK, z_PikK, z_ForK, z_Comp2K, z_PutK, z_WhK]
  exact Du.comp_invI
end Dv

set_option maxRecDepth 100000
set_option maxHeartbeats 4000000
/-! Go: more rules -/
namespace Dv
open PySem PySem.Spec PyProof.Rows L2
section
variable {kl : KL'} {ki : KI'} {k : KD} {x : KX} {d : D} {i j : Nat} {sl : List (Option D)} {ce : List Cell} {n0 : Nat} {xs : List D}
theorem g_pop0 {y : D} (e : ce[j]? = some (.lst (y :: xs))) (h : WrK j (.lst xs) ⟨sl, ce, n0⟩ (k y)) : Gm (mPop0 ce (.rf j) [.int 0]) ⟨sl, ce, n0⟩ kl k := by
  simp only [z_Gm, z_WrK] at *
  show Du.Gm (popK j 0 (cellL ce[j]?)) _ kl k
  rw [e]
  exact h
theorem g_rev (e : ce[j]? = some (.lst xs)) (h : WrK j (.lst xs.reverse) ⟨sl, ce, n0⟩ (k .non)) : Gm (mRev ce (.rf j) []) ⟨sl, ce, n0⟩ kl k := by
  simp only [z_Gm, z_WrK] at *
  show Du.Gm (revK j (cellL ce[j]?)) _ kl k
  rw [e]
  exact h
theorem g_clr (e : ce[j]? = some (.lst xs)) (h : WrK j (.lst []) ⟨sl, ce, n0⟩ (k .non)) : Gm (mClr ce (.rf j) []) ⟨sl, ce, n0⟩ kl k := by
  simp only [z_Gm, z_WrK] at *
  show Du.Gm (clrK j (cellL ce[j]?)) _ kl k
  rw [e]
  exact h
end
end Dv
namespace Dv
open PySem PySem.Spec PyProof.Rows L2
/-! ### try -/
@[irreducible] noncomputable def Gc (l : List Cla) (e : Xc) (s : S) (nx bk ct : KS) (rt : R → Prop) (x : KX) : Prop := Du.GrO (claK e s l) nx bk ct rt x
/-- a name goes -/
@[irreducible] noncomputable def CutK (i : Nat) (nx : KS) : KS := fun s => nx ⟨s.sl.set i none, s.ce, s.n0⟩
section
variable {nx bk ct : KS} {rt : R → Prop} {x : KX} {c i : Nat} {oi : Option Nat} {fs : List (Str × D)} {f : DS} {l : List Cla} {tbl : List (Nat × Bool)} {s : S} {e : Xc} {sl sl' : List (Option D)} {ce : List Cell} {n0 : Nat} {kl : KL'} {k : KD}
theorem cutk [h : SetN sl i none sl'] (q : nx ⟨sl', ce, n0⟩) : CutK i nx ⟨sl, ce, n0⟩ := by
  unfold CutK
  show nx ⟨sl.set i none, ce, n0⟩
  rw [h.eq]
  exact q
theorem g_try (h : Gs f s nx bk ct rt (fun e s => Gc l e s nx bk ct rt x)) : Gs (sTry l f) s nx bk ct rt x := by
  rw [z_Gs] at *
  have h2 : Du.GrO (f s) nx bk ct rt (fun e s => Gc l e s nx bk ct rt x) := h
  show Du.GrO (tryK l (f s)) nx bk ct rt x
  cases e1 : f s with
  | er y s1 =>
    rw [e1] at h2
    have h3 : Gc l y s1 nx bk ct rt x := h2
    unfold Gc at h3
    exact h3
  | nx s1 =>
    rw [e1] at h2
    exact h2
  | bk s1 =>
    rw [e1] at h2
    exact h2
  | ct s1 =>
    rw [e1] at h2
    exact h2
  | rt d s1 =>
    rw [e1] at h2
    exact h2
  | rl d s1 =>
    rw [e1] at h2
    exact h2
  | ri c d s1 =>
    rw [e1] at h2
    exact h2
  | no =>
    rw [e1] at h2
    exact h2
theorem gc_nil (h : x e s) : Gc [] e s nx bk ct rt x := by
  unfold Gc
  exact h
theorem gc_f (h1 : tbl.lookup c = some false) (h : Gc l ⟨c, fs⟩ s nx bk ct rt x) : Gc (⟨tbl, oi, f⟩ :: l) ⟨c, fs⟩ s nx bk ct rt x := by
  unfold Gc at *
  show Du.GrO (match tbl.lookup c with
    | some true => suiK ⟨c, fs⟩ s f oi
    | some false => claK ⟨c, fs⟩ s l
    | none => .no) nx bk ct rt x
  rw [h1]
  exact h
theorem gc_t (h1 : tbl.lookup c = some true) (h : Gs f s nx bk ct rt FX) : Gc (⟨tbl, none, f⟩ :: l) ⟨c, fs⟩ s nx bk ct rt x := by
  rw [z_Gs] at h
  unfold Gc
  have h2 : Du.GrO (f s) nx bk ct rt FX := h
  show Du.GrO (match tbl.lookup c with
    | some true => calmO (f s)
    | some false => claK ⟨c, fs⟩ s l
    | none => .no) nx bk ct rt x
  rw [h1]
  show Du.GrO (calmO (f s)) nx bk ct rt x
  cases e1 : f s with
  | er y s1 =>
    rw [e1] at h2
    exact h2.elim
  | _ =>
    rw [e1] at h2
    exact h2
theorem gc_ti (h1 : tbl.lookup c = some true) (h : SetK i (.xc c fs) s fun s => Gs f s (CutK i nx) (CutK i bk) (CutK i ct) rt FX) : Gc (⟨tbl, some i, f⟩ :: l) ⟨c, fs⟩ s nx bk ct rt x := by
  rw [z_Gs, z_SetK] at h
  unfold Gc
  unfold CutK at h
  have h2 : Du.GrO (f ⟨s.sl.set i (some (.xc c fs)), s.ce, s.n0⟩) (fun s => nx ⟨s.sl.set i none, s.ce, s.n0⟩) (fun s => bk ⟨s.sl.set i none, s.ce, s.n0⟩) (fun s => ct ⟨s.sl.set i none, s.ce, s.n0⟩) rt FX := h
  show Du.GrO (match tbl.lookup c with
    | some true => cutO i (f ⟨s.sl.set i (some (.xc c fs)), s.ce, s.n0⟩)
    | some false => claK ⟨c, fs⟩ s l
    | none => .no) nx bk ct rt x
  rw [h1]
  show Du.GrO (cutO i (f ⟨s.sl.set i (some (.xc c fs)), s.ce, s.n0⟩)) nx bk ct rt x
  cases e1 : f ⟨s.sl.set i (some (.xc c fs)), s.ce, s.n0⟩ with
  | er y s1 =>
    rw [e1] at h2
    exact h2.elim
  | _ =>
    rw [e1] at h2
    exact h2
theorem q_isx {b : Bool} (h1 : tbl.lookup c = some b) (h : k (.bl b) s) : Gq (isxD tbl ce (.xc c fs)) s kl k := by
  rw [z_Gq]
  show Du.Gq (match tbl.lookup c with
    | some b => .v (.bl b)
    | none => .no) s kl k
  rw [h1]
  exact h
theorem q_xf {n : Str} {d : D} (h0 : tbl.lookup c = some true) (h1 : fs.lookup n = some d) (h : k d s) : Gq (match D.xc c fs with
      | .xc c fs => if tbl.lookup c = some true then xfD n ce (.xc c fs) else .no
      | _ => .no) s kl k := by
  rw [z_Gq]
  show Du.Gq (if tbl.lookup c = some true then (match fs.lookup n with
    | some d => .v d
    | none => .no) else .no) s kl k
  rw [if_pos h0, h1]
  exact h
end
end Dv

set_option maxRecDepth 100000
set_option maxHeartbeats 4000000
/-! Go: dicts, walked and locked; x op= .. -/
namespace Dv
open PySem PySem.Spec PyProof.Rows L2
/-- behind a locked part: the dict is a dict again -/
@[irreducible] noncomputable def UnlK (j : Nat) (nx : KS) : KS := fun s => ∃ kvs, s.ce[j]? = some (.lk kvs) ∧ WrK j (.dic kvs) s nx
noncomputable def UnlR (j : Nat) (rt : R → Prop) : R → Prop
  | .ok d s => UnlK j (fun s => rt (.ok d s)) s
  | .nl xs s => UnlK j (fun s => rt (.nl xs s)) s
  | _ => False
section
variable {nx bk ct : KS} {rt : R → Prop} {kl : KL'} {ki : KI'} {k : KD} {x : KX} {d : D} {i j : Nat} {sl : List (Option D)} {ce : List Cell} {n0 : Nat} {xs : List D} {f fk fo : DE} {b : DS} {kvs : List (Key × D)} {s : S}
theorem unlk (e : ce[j]? = some (.lk kvs)) (h : WrK j (.dic kvs) ⟨sl, ce, n0⟩ nx) : UnlK j nx ⟨sl, ce, n0⟩ := by
  unfold UnlK
  exact ⟨kvs, e, h⟩
theorem unl_go {o : O} (h : Du.GrO o (UnlK j nx) (UnlK j bk) (UnlK j ct) (UnlR j rt) FX) : Du.GrO (unlO j o) nx bk ct rt x := by
  have st : ∀ {s : S} {nx : KS} {mk : S → O}, UnlK j nx s → (∀ s, nx s → Du.GrO (mk s) (fun s => True) (fun s => True) (fun s => True) (fun _ => True) (fun _ _ => True) → True) → True := fun _ _ => trivial
  cases o with
  | nx s =>
    have h1 : UnlK j nx s := h
    unfold UnlK at h1
    obtain ⟨kvs, e, h2⟩ := h1
    rw [z_WrK] at h2
    show Du.GrO (unlS j s .nx .no) nx bk ct rt x
    unfold unlS
    rw [e]
    exact h2
  | bk s =>
    have h1 : UnlK j bk s := h
    unfold UnlK at h1
    obtain ⟨kvs, e, h2⟩ := h1
    rw [z_WrK] at h2
    show Du.GrO (unlS j s .bk .no) nx bk ct rt x
    unfold unlS
    rw [e]
    exact h2
  | ct s =>
    have h1 : UnlK j ct s := h
    unfold UnlK at h1
    obtain ⟨kvs, e, h2⟩ := h1
    rw [z_WrK] at h2
    show Du.GrO (unlS j s .ct .no) nx bk ct rt x
    unfold unlS
    rw [e]
    exact h2
  | rt d s =>
    have h1 : UnlK j (fun s => rt (.ok d s)) s := h
    unfold UnlK at h1
    obtain ⟨kvs, e, h2⟩ := h1
    rw [z_WrK] at h2
    show Du.GrO (unlS j s (.rt d) .no) nx bk ct rt x
    unfold unlS
    rw [e]
    exact h2
  | rl d s =>
    have h1 : UnlK j (fun s => rt (.nl d s)) s := h
    unfold UnlK at h1
    obtain ⟨kvs, e, h2⟩ := h1
    rw [z_WrK] at h2
    show Du.GrO (unlS j s (.rl d) .no) nx bk ct rt x
    unfold unlS
    rw [e]
    exact h2
  | _ => exact h.elim
theorem g_lockS [h0 : GetN sl i (.rf j)] (e : ce[j]? = some (.dic kvs)) (h : WrK j (.lk kvs) ⟨sl, ce, n0⟩ fun s => Gs b s (UnlK j nx) (UnlK j bk) (UnlK j ct) (UnlR j rt) FX) : Gs (sLockD i b) ⟨sl, ce, n0⟩ nx bk ct rt x := by
  rw [z_WrK] at h
  rw [z_Gs] at h ⊢
  have h1 : Du.GrO (b ⟨sl, ce.set j (.lk kvs), n0⟩) (UnlK j nx) (UnlK j bk) (UnlK j ct) (UnlR j rt) FX := h
  show Du.GrO (sLockD i b ⟨sl, ce, n0⟩) nx bk ct rt x
  unfold sLockD
  rw [h0.eq]
  show Du.GrO (lokS j b ⟨sl, ce, n0⟩ (cellD ce[j]?)) nx bk ct rt x
  rw [e]
  exact unl_go h1
theorem g_lockE [h0 : GetN sl i (.rf j)] (e : ce[j]? = some (.dic kvs)) (h : WrK j (.lk kvs) ⟨sl, ce, n0⟩ fun s => Gn f s (fun xs s => UnlK j (kl xs) s) (fun _ _ _ => False) (fun d s => UnlK j (k d) s) FX) : Gn (dLockD i f) ⟨sl, ce, n0⟩ kl ki k x := by
  rw [z_WrK] at h
  rw [z_Gn] at h ⊢
  have h1 : Du.Gr (f ⟨sl, ce.set j (.lk kvs), n0⟩) (fun xs s => UnlK j (kl xs) s) (fun _ _ _ => False) (fun d s => UnlK j (k d) s) FX := h
  show Du.Gr (dLockD i f ⟨sl, ce, n0⟩) kl ki k x
  unfold dLockD
  rw [h0.eq]
  show Du.Gr (lokR j f ⟨sl, ce, n0⟩ (cellD ce[j]?)) kl ki k x
  rw [e]
  show Du.Gr (unlR j (f ⟨sl, ce.set j (.lk kvs), n0⟩)) kl ki k x
  cases e2 : f ⟨sl, ce.set j (.lk kvs), n0⟩ with
  | ok d s =>
    rw [e2] at h1
    have h3 : UnlK j (k d) s := h1
    unfold UnlK at h3
    obtain ⟨kvs, e, h2⟩ := h3
    rw [z_WrK] at h2
    show Du.Gr (unlS j s (.ok d) .no) kl ki k x
    unfold unlS
    rw [e]
    exact h2
  | nl d s =>
    rw [e2] at h1
    have h3 : UnlK j (kl d) s := h1
    unfold UnlK at h3
    obtain ⟨kvs, e, h2⟩ := h3
    rw [z_WrK] at h2
    show Du.Gr (unlS j s (.nl d) .no) kl ki k x
    unfold unlS
    rw [e]
    exact h2
  | _ =>
    rw [e2] at h1
    exact h1.elim
theorem i_lk {g : List (Key × D) → List D} {k : KL'} [h0 : GetN sl i (.rf j)] (e : ce[j]? = some (.lk kvs)) (h : k (g kvs) ⟨sl, ce, n0⟩) : Gi (iLk g i) ⟨sl, ce, n0⟩ k x := by
  rw [z_Gi]
  show Du.GrI (iLk g i ⟨sl, ce, n0⟩) k x
  unfold iLk
  rw [h0.eq]
  show Du.GrI (iLkK g ⟨sl, ce, n0⟩ (cellLk ce[j]?)) k x
  rw [e]
  exact h
/-- d[k] -/
@[irreducible] noncomputable def SubKA (o y : D) (s : S) (k : KD) : Prop := ∃ j kvs ky d, o = .rf j ∧ cellR s.ce[j]? = some kvs ∧ keyD y = some ky ∧ valKD kvs ky = some d ∧ k d s
theorem subka {y : D} {ky : Key} (e : ce[j]? = some (.dic kvs) ∨ ce[j]? = some (.lk kvs)) (e2 : keyD y = some ky) (e3 : valKD kvs ky = some d) (h : k d ⟨sl, ce, n0⟩) : SubKA (.rf j) y ⟨sl, ce, n0⟩ k := by
  unfold SubKA
  refine ⟨j, kvs, ky, d, rfl, ?_, e2, e3, h⟩
  show cellR ce[j]? = _
  rcases e with e | e <;> rw [e] <;> rfl
theorem g_subA (h : Ge fo s (fun o s => Ge fk s (fun y s => SubKA o y s k) x) x) : Gn (dSubA fo fk) s kl ki k x := by
  rw [z_Gn]
  rw [z_Ge] at h
  show Du.Gr (bindR (fo s) fun o s1 => bindR (fk s1) fun y s2 => subA s2 o y) kl ki k x
  refine Du.gr_bind (Du.Gr.m1 h fun o s1 h1 => Du.gr_bind (Du.Gr.m1 h1 fun y s2 h2 => ?_))
  unfold SubKA at h2
  obtain ⟨j, kvs, ky, d, rfl, e1, e2, e3, h3⟩ := h2
  show Du.Gr (match cellR s2.ce[j]?, keyD y with
    | some kvs, some k => poK s2 (match valKD kvs k with
      | some d => .v d
      | none => .no)
    | _, _ => .no) kl ki k x
  rw [e1, e2]
  show Du.Gr (poK s2 (match valKD kvs ky with
      | some d => .v d
      | none => .no)) kl ki k x
  rw [e3]
  exact h3
/-- x op= .. -/
theorem g_augP {p : List Cell → D → D → Po} {a : D} [h0 : GetN sl i a] (h : Ge f ⟨sl, ce, n0⟩ (fun d s => Gq (p s.ce a d) s (fun _ _ => False) (fun v s => SetK i v s nx)) x) : Gs (sAugP i p f) ⟨sl, ce, n0⟩ nx bk ct rt x := by
  rw [z_Gq, z_SetK, z_Ge] at h
  rw [z_Gs]
  show Du.GrO (sAugP i p f ⟨sl, ce, n0⟩) nx bk ct rt x
  unfold sAugP
  rw [h0.eq]
  refine Du.go_bindR (Du.Gr.m1 h fun d s h1 => ?_)
  show Du.GrO (augP i s (p s.ce a d)) nx bk ct rt x
  generalize p s.ce a d = r at *
  cases r with
  | v d => exact h1
  | l xs => exact h1.elim
  | no => exact h1.elim
theorem q_mulS {i j : Int} (h1 : -18446744073709551616 < j ∧ j < 18446744073709551616) (h : k (.int (i * j)) s) : Gq (pMulS ce (.int i) (.int j)) s kl k := by
  rw [z_Gq]
  show Du.Gq (if -18446744073709551616 < j ∧ j < 18446744073709551616 then .v (.int (i * j)) else .no) s kl k
  rw [if_pos h1]
  exact h
theorem q_divS {i j : Int} (h1 : 0 < j ∧ j < 1073741824) (h : k (.int (i / j)) s) : Gq (pDivS ce (.int i) (.int j)) s kl k := by
  rw [z_Gq]
  show Du.Gq (if 0 < j ∧ j < 1073741824 then .v (.int (i / j)) else .no) s kl k
  rw [if_pos h1]
  exact h
theorem q_isB {a b : Bool} (h : k (.bl (decide (a = b))) s) : Gq (pIsB false ce (.bl a) (.bl b)) s kl k := by
  rw [z_Gq]
  exact h
theorem q_notB {a b : Bool} (h : k (.bl (!decide (a = b))) s) : Gq (pIsB true ce (.bl a) (.bl b)) s kl k := by
  rw [z_Gq]
  exact h
/-- a dict made of a walk, turn by turn; the cells stay -/
@[irreducible] noncomputable def DcK (t : DT) (vs : List Nat) (c : DB) (fk f : DE) (xs : List D) (s : S) (k : KD) : Prop := Du.Gr (compD gYes t vs c fk f xs [] s) noL noI k FX
theorem n_dcomp {it : DI} {t : DT} {vs : List Nat} {c : DB} (h : Gi it s (fun xs s => DcK t vs c fk f xs s k) x) : Gn (dDcomp it t vs c fk f) s kl ki k x := by
  rw [z_Gi] at h
  rw [z_Gn]
  refine Du.gr_bindI (Du.GrI.m1 h fun xs s1 h1 => ?_)
  unfold DcK at h1
  generalize compD gYes t vs c fk f xs [] s1 = r at *
  cases r with
  | ok d s => exact h1
  | _ => exact h1.elim
theorem putKD_new {ky : Key} : ∀ {kvs : List (Key × D)}, ky ∉ kvs.map (·.1) → putKD kvs ky d = kvs ++ [(ky, d)] := fun {kvs} h => by
  have e : valKD kvs ky = none := by
    induction kvs with
    | nil => rfl
    | cons p r ih =>
      rw [List.map_cons, List.mem_cons] at h
      show (if p.1 = ky then some p.2 else valKD r ky) = none
      rw [if_neg (fun z => h (.inl z.symm))]
      exact ih fun z => h (.inr z)
  unfold putKD
  rw [e]
theorem dcomp_map {α : Type} (l : List α) (u : α → D) (kf : α → Key) (vf : α → D) {t : DT} {vs : List Nat} {sl' : List (Option D)} [hw : WipN sl vs sl'] (hn : (l.map kf).Nodup) (hl : l.length ≤ 90000)
    (h : ∀ a ∈ l, TgK t (u a) ⟨sl', ce, ce.length⟩ fun s1 => Ge fk s1 (fun y s2 => keyD y = some (kf a) ∧ Ge f s2 (fun v s3 => v = vf a ∧ s3.ce = ce) FX) FX)
    (hd : k (.rf ce.length) ⟨sl, ce ++ [.dic (l.map fun a => (kf a, vf a))], n0⟩) : DcK t vs bYes fk f (l.map u) ⟨sl, ce, n0⟩ k := by
  simp only [z_TgK, z_Ge] at h
  unfold DcK
  have go : ∀ (r a : List α), a ++ r = l → Du.Gr (compD gYes t vs bYes fk f (r.map u) (a.map fun a => (kf a, vf a)) ⟨sl, ce, n0⟩) noL noI k FX := by
    intro r
    induction r with
    | nil =>
      intro a e
      rw [List.append_nil] at e
      subst e
      exact hd
    | cons b r ih =>
      intro a e
      have hb : b ∈ l := by rw [← e]; simp
      obtain ⟨s1, e1, q⟩ := h b hb
      have e1' : t (u b) (inS vs ⟨sl, ce, n0⟩) = some s1 := by
        unfold inS
        rw [← hw.eq] at e1
        exact e1
      show Du.Gr (tgR (fun s1 => okB (bYes s1) fun b s2 => if b = true then okR (fk s2) (fun y s3 => okR (f s3) (fun x s4 => if (a.map fun a => (kf a, vf a)).length < 100000 then putR (compD gYes t vs bYes fk f (r.map u)) (a.map fun a => (kf a, vf a)) x (outS ⟨sl, ce, n0⟩ s4) (keyD y) else .no)) else compD gYes t vs bYes fk f (r.map u) (a.map fun a => (kf a, vf a)) (outS ⟨sl, ce, n0⟩ s2)) (t (u b) (inS vs ⟨sl, ce, n0⟩))) noL noI k FX
      rw [e1']
      show Du.Gr (okR (fk s1) (fun y s3 => okR (f s3) (fun x s4 => if (a.map fun a => (kf a, vf a)).length < 100000 then putR (compD gYes t vs bYes fk f (r.map u)) (a.map fun a => (kf a, vf a)) x (outS ⟨sl, ce, n0⟩ s4) (keyD y) else .no))) noL noI k FX
      have q1 : Du.Gr (fk s1) noL noI (fun y s2 => keyD y = some (kf b) ∧ Du.Ge f s2 (fun v s3 => v = vf b ∧ s3.ce = ce) FX) FX := q
      cases e2 : fk s1 with
      | ok y s2 =>
        rw [e2] at q1
        obtain ⟨q2, q3⟩ := q1
        show Du.Gr (okR (f s2) (fun x s4 => if (a.map fun a => (kf a, vf a)).length < 100000 then putR (compD gYes t vs bYes fk f (r.map u)) (a.map fun a => (kf a, vf a)) x (outS ⟨sl, ce, n0⟩ s4) (keyD y) else .no)) noL noI k FX
        have q4 : Du.Gr (f s2) noL noI (fun v s3 => v = vf b ∧ s3.ce = ce) FX := q3
        cases e3 : f s2 with
        | ok v s3 =>
          rw [e3] at q4
          obtain ⟨rfl, q5⟩ := q4
          have hlen : (a.map fun a => (kf a, vf a)).length < 100000 := by
            rw [List.length_map]
            have := congrArg List.length e
            rw [List.length_append] at this
            omega
          show Du.Gr (if (a.map fun a => (kf a, vf a)).length < 100000 then putR (compD gYes t vs bYes fk f (r.map u)) (a.map fun a => (kf a, vf a)) (vf b) (outS ⟨sl, ce, n0⟩ s3) (keyD y) else .no) noL noI k FX
          rw [if_pos hlen, q2]
          show Du.Gr (compD gYes t vs bYes fk f (r.map u) (putKD (a.map fun a => (kf a, vf a)) (kf b) (vf b)) ⟨sl, s3.ce, n0⟩) noL noI k FX
          rw [q5, putKD_new (by
            intro hm
            rw [List.map_map] at hm
            rw [← e, List.map_append, List.map_cons] at hn
            exact (List.nodup_append.mp hn).2.2 (kf b) hm (kf b) List.mem_cons_self rfl)]
          have ih2 := ih (a ++ [b]) (by rw [← e, List.append_assoc] <;> rfl)
          rw [List.map_append] at ih2
          exact ih2
        | _ =>
          rw [e3] at q4
          exact q4.elim
      | _ =>
        rw [e2] at q1
        exact q1.elim
  exact go l [] rfl
/-- a cell of ints in == and != -/
theorem toPc_rf {j : Nat} {xs : List Int} (e : ce[j]? = some (.lst (xs.map .int))) : toPc ce (.rf j) = toPc ce (lI xs) := by
  have h : cellL ce[j]? = some (xs.map .int) := by rw [e] <;> rfl
  simp only [toPc, h]
  rfl
theorem q_neC {ns : List Int} (e : ce[j]? = some (.lst (ns.map .int))) (h : Gq (pNe ce (lI ns) d) s kl k) : Gq (pNe ce (.rf j) d) s kl k := by
  unfold pNe at h ⊢
  rw [toPc_rf e]
  exact h
theorem q_eqC {ns : List Int} (e : ce[j]? = some (.lst (ns.map .int))) (h : Gq (pEq ce (lI ns) d) s kl k) : Gq (pEq ce (.rf j) d) s kl k := by
  unfold pEq at h ⊢
  rw [toPc_rf e]
  exact h
theorem q_ixC1 {x : Int} {r : List Int} (e : ce[j]? = some (.lst ((x :: r).map .int))) (h : k (.int x) s) : Gq (pIx ce (.rf j) (.int 0)) s kl k := q_ixC e (atI_map D.int (l := x :: r) (i := 0) (by decide) rfl) h
end
end Dv

set_option maxRecDepth 100000
set_option maxHeartbeats 4000000
/-! more rules of terms -/
namespace Dv
open PySem PySem.Spec PyProof.Rows L2
section
variable {X : Cx} {cl : Cl} {e : Ent} {W : WX} {a b : Expr} {f g : DE} {pos : Pos}
theorem e_rep (ha : PEd X cl e W a f) (hb : PEd X cl e W b g) : PEd X cl e W (.BinOp a .Mult b pos) (dOp pRep f g) := d_op op_rep od_rep ha hb
/-- y = {k: v for ..}, y a plain local -/
theorem ps_setDc {i : Nat} {y : Str} {py : Pos} {kx vx tg iter : Expr} {ifs : List Expr} {scope : Scope} {own : List (Str × Nat)} {pos spos : Pos} {wi : TI} {g : TG} {tt : TT} {tk tv : TE} (hN : X.N.Nodup) (hy : X.N[i]? = some y) (hyl : X.env.scope.names.lookup y = some .local)
    (hsw : swapsWith (.DictComp kx vx [⟨tg, iter, ifs, 0⟩] scope pos) (some (.Name y py)) spos.line X.env = pure true) (hc : X.calm = true) (hi : PI X tg iter wi) (ok : BlkOk X.N X.env.scope scope own)
    (p1 : ∀ (s : Shared) (H : Hp) (C : Addr) (cl : List (Str × Addr)) (fp : List Addr), PG (X.blk s H scope (compEnvC scope cl C X.env) fp) tg g)
    (p2 : ∀ (s : Shared) (H : Hp) (C : Addr) (cl : List (Str × Addr)) (fp : List Addr), PTs (X.blk s H scope (compEnvC scope cl C X.env) fp) ifs tt)
    (p3 : ∀ (s : Shared) (H : Hp) (C : Addr) (cl : List (Str × Addr)) (fp : List Addr), PE (X.blk s H scope (compEnvC scope cl C X.env) fp) kx tk)
    (p4 : ∀ (s : Shared) (H : Hp) (C : Addr) (cl : List (Str × Addr)) (fp : List Addr), PE (X.blk s H scope (compEnvC scope cl C X.env) fp) vx tv) (hs : ∀ x, foldedSetIterable iter X.env x = pure x := by intro _; rfl) :
    PS X (.Assign [.Name y py] (.DictComp kx vx [⟨tg, iter, ifs, 0⟩] scope pos) spos) (tAsg (tDc wi g tt tk tv (own.map (·.2))) (gName i)) := by
  refine ⟨fun pins s σ H D I h => ?_⟩
  rw [exec_Assign_Name_used _ _ _ _ hsw]
  refine wpAny_bind (wpAny_standAt (wpAny_bind ?_))
  show wpAny _ X.A (do let _ ← comprehension (.DictComp kx vx [⟨tg, iter, ifs, 0⟩] scope pos) scope X.env (firstIterPos [⟨tg, iter, ifs, 0⟩] pos) newDict false (eval iter X.env) (some (assign (.Name y py) X.env))) _ _ s
  have h1 : tDc wi g tt tk tv (own.map (·.2)) σ H (fun x H1 => gName i x σ H1 D.nx) := h
  refine wpAny_bind (thn (dc_core (Qf := fun _ s' => SP X pins D .next s') hc hN I hi ok p1 p2 p3 p4 hs h1 fun L C s' m H' I' q hn fo => ?_) fun _ s' hq => wpAny_pure (wpAny_pure hq))
  show wpAny _ _ (assign (.Name y py) X.env (.ref L)) _ _ _
  refine wpAny_assign_Name (store_ok2 (v := V.ref L) I' hN hy (.inl hyl) rfl (fun s2 I2 ⟨w, sb, ha⟩ => ?_) (.inr hyl))
  obtain ⟨f0, f1, f2, f3, f4, f5⟩ := fo
  have ne : C ≠ w := by
    rcases ha with z | z
    · exact z ▸ f1
    · exact fun e => f4 y w z e.symm
  exact ⟨m, hn.sameBut sb ne, fun h3 sb3 => ⟨_, H', I2.turned (t' := s2.toks) (fun b o hb e => (sb3.2 b hb).trans e) f0 f1 f3 f4 f5, q⟩⟩
theorem sw_trueD {kx vx : Expr} {gs : List Comprehension} {scope : Scope} {pos py : Pos} {y : Str} {l : Nat} {env : Env} (hk : env.scope.kind = .function) (hy : env.scope.names.lookup y = some .local) (hl : (py.line == pos.line) = true)
    (ha : (scope.names.any fun (n, k) => n == y && (k == .local || k == .cell)) = false) : swapsWith (.DictComp kx vx gs scope pos) (some (.Name y py)) l env = pure true := by
  have k1 : env.kindOf y = some .local := hy
  have k2 : env.blockKind = .function := by unfold Env.blockKind; rw [hk] <;> rfl
  unfold swapsWith
  simp only [k2, k1, ha, Expr.pos, hl]
  rfl
end
end Dv

set_option maxRecDepth 100000
set_option maxHeartbeats 4000000
namespace Dv
open PySem PySem.Spec PyProof.Rows L2
theorem valB_tog (n x : Int) : ∀ kv : List (Int × Bool), valB (togB kv n) x = if x = n then some (!((valB kv n).getD false)) else valB kv x
  | [] => by
    show (if n = x then some true else none) = _
    by_cases h : x = n
    · subst h
      rw [if_pos rfl, if_pos rfl] <;> rfl
    · rw [if_neg (fun z => h z.symm), if_neg h] <;> rfl
  | (k, b) :: r => by
    have ih := valB_tog n x r
    by_cases hk : k = n
    · subst hk
      have e1 : togB ((k, b) :: r) k = (k, !b) :: r := by
        show (if k = k then _ else _) = _
        rw [if_pos rfl]
      rw [e1]
      show (if k = x then some (!b) else valB r x) = if x = k then some (!((if k = k then some b else valB r k).getD false)) else (if k = x then some b else valB r x)
      by_cases h : x = k
      · subst h
        rw [if_pos rfl, if_pos rfl, if_pos rfl] <;> rfl
      · rw [if_neg (fun z => h z.symm), if_neg h, if_neg (fun z => h z.symm)]
    · have e1 : togB ((k, b) :: r) n = (k, b) :: togB r n := by
        show (if k = n then _ else _) = _
        rw [if_neg hk]
      rw [e1]
      show (if k = x then some b else valB (togB r n) x) = if x = n then some (!((if k = n then some b else valB r n).getD false)) else (if k = x then some b else valB r x)
      rw [ih, if_neg hk]
      by_cases h : x = n
      · subst h
        rw [if_neg hk, if_pos rfl, if_pos rfl]
      · rw [if_neg h, if_neg h]
theorem rev_ind {α : Type} {P : List α → Prop} (h0 : P []) (h1 : ∀ l a, P l → P (l ++ [a])) (l : List α) : P l := by
  have h : ∀ r : List α, P r.reverse := fun r => by
    induction r with
    | nil => exact h0
    | cons a r ih =>
      rw [List.reverse_cons]
      exact h1 _ a ih
  have := h l.reverse
  rwa [List.reverse_reverse] at this
theorem val_count (x : Int) (ns : List Int) : (valB (odB ns) x).getD false = decide (ns.count x % 2 = 1) := by
  refine rev_ind (P := fun ns => (valB (odB ns) x).getD false = decide (ns.count x % 2 = 1)) rfl (fun l a ih => ?_) ns
  rw [odB_snoc, valB_tog, List.count_append]
  by_cases h : x = a
  · subst h
    rw [if_pos rfl]
    show (!((valB (odB l) x).getD false)) = _
    rw [ih, List.count_singleton_self]
    by_cases h2 : l.count x % 2 = 1
    · rw [decide_eq_true h2, decide_eq_false (by omega)] <;> rfl
    · rw [decide_eq_false h2, decide_eq_true (by omega)] <;> rfl
  · rw [if_neg h, ih]
    have : List.count x [a] = 0 := List.count_eq_zero.mpr fun z => h (List.mem_singleton.mp z)
    rw [this, Nat.add_zero]
theorem valB_mem {x : Int} {b : Bool} : ∀ {kv : List (Int × Bool)}, (kv.map (·.1)).Nodup → ((x, b) ∈ kv ↔ valB kv x = some b)
  | [], _ => by
    constructor
    · intro h
      cases h
    · intro h
      cases h
  | (k, c) :: r, nd => by
    obtain ⟨n1, n2⟩ := List.nodup_cons.mp nd
    have ih := valB_mem (x := x) (b := b) n2
    show _ ↔ (if k = x then some c else valB r x) = some b
    rw [List.mem_cons]
    by_cases h : k = x
    · subst h
      rw [if_pos rfl]
      constructor
      · rintro (z | z)
        · cases z
          rfl
        · exact absurd (List.mem_map.mpr ⟨_, z, rfl⟩) n1
      · intro z
        cases z
        exact .inl rfl
    · rw [if_neg h, ← ih]
      constructor
      · rintro (z | z)
        · cases z
          exact absurd rfl h
        · exact z
      · exact .inr
theorem mem_oddI {x : Int} {ns : List Int} : x ∈ oddI ns ↔ ns.count x % 2 = 1 := by
  have nd : ((odB ns).map (·.1)).Nodup := by
    have := (odB_nodup_len ns ns.length).1
    rwa [List.take_length] at this
  have e : x ∈ oddI ns ↔ (x, true) ∈ odB ns := by
    unfold oddI
    rw [(isortI_perm _).mem_iff, List.mem_map]
    constructor
    · rintro ⟨⟨a, b⟩, h, rfl⟩
      obtain ⟨h1, h2⟩ := List.mem_filter.mp h
      have h2' : b = true := h2
      subst h2'
      exact h1
    · intro h
      exact ⟨(x, true), List.mem_filter.mpr ⟨h, rfl⟩, rfl⟩
  rw [e, valB_mem nd]
  have h := val_count x ns
  cases v : valB (odB ns) x with
  | none =>
    rw [v] at h
    constructor
    · intro z
      cases z
    · intro z
      rw [decide_eq_true z] at h
      cases h
  | some b =>
    rw [v] at h
    have h' : b = decide (ns.count x % 2 = 1) := h
    constructor
    · intro z
      cases z
      exact of_decide_eq_true h'.symm
    · intro z
      rw [h', decide_eq_true z]
/-- the numbers that come an odd number of times, by counting -/
theorem sset_count (ns : List Int) : (sset ns).filter (fun d => decide (((ns.count d : Nat) : Int) % 2 = 1)) = oddI ns := by
  refine asc_one ((sset_asc ns).filter _) (odd_asc ns) fun x => ?_
  rw [List.mem_filter, sset_mem, mem_oddI, decide_eq_true_iff]
  constructor
  · rintro ⟨_, h⟩
    omega
  · intro h
    refine ⟨List.count_pos_iff.mp (by omega), by omega⟩
end Dv

set_option maxRecDepth 100000
set_option maxHeartbeats 4000000
set_option exponentiation.threshold 600
/-! counting by weights -/
namespace Dv
open PySem PySem.Spec PyProof.Rows L2
abbrev Wt := List (Int × Int)
def toK (w : Wt) : List (Key × D) := w.map fun p => (Sum.inl p.1, D.int p.2)
def getW : Wt → Int → Option Int
  | [], _ => none
  | p :: r, d => if p.1 = d then some p.2 else getW r d
def setW (w : Wt) (d c : Int) : Wt := match getW w d with
  | some _ => w.map fun p => (p.1, if p.1 = d then c else p.2)
  | none => w ++ [(d, c)]
def addW (w : Wt) (d c : Int) : Wt := setW w d ((getW w d).getD 0 + c)
theorem val_toK (d : Int) : ∀ w : Wt, valKD (toK w) (.inl d) = (getW w d).map D.int
  | [] => rfl
  | p :: r => by
    show (if (Sum.inl p.1 : Key) = .inl d then some (D.int p.2) else valKD (toK r) (.inl d)) = (if p.1 = d then some p.2 else getW r d).map D.int
    by_cases h : p.1 = d
    · rw [if_pos (by rw [h]), if_pos h] <;> rfl
    · rw [if_neg (fun z => h (Sum.inl.inj z)), if_neg h]
      exact val_toK d r
theorem put_toK (w : Wt) (d c : Int) : putKD (toK w) (.inl d) (.int c) = toK (setW w d c) := by
  unfold putKD setW
  rw [val_toK]
  cases getW w d with
  | none =>
    show toK w ++ [(Sum.inl d, D.int c)] = toK (w ++ [(d, c)])
    unfold toK
    rw [List.map_append] <;> rfl
  | some x =>
    show (toK w).map _ = toK (w.map _)
    unfold toK
    rw [List.map_map, List.map_map]
    refine List.map_congr_left fun p _ => ?_
    show ((Sum.inl p.1 : Key), if (Sum.inl p.1 : Key) = .inl d then D.int c else .int p.2) = (Sum.inl p.1, D.int (if p.1 = d then c else p.2))
    by_cases h : p.1 = d
    · rw [if_pos (by rw [h]), if_pos h]
    · rw [if_neg (fun z => h (Sum.inl.inj z)), if_neg h]
abbrev keysW (w : Wt) : List Int := w.map (·.1)
theorem getW_none {d : Int} : ∀ {w : Wt}, getW w d = none ↔ d ∉ keysW w
  | [] => by simp [getW]
  | p :: r => by
    show (if p.1 = d then some p.2 else getW r d) = none ↔ _
    by_cases h : p.1 = d
    · rw [if_pos h]
      simp [h]
    · rw [if_neg h, getW_none (w := r)]
      simp
      exact fun _ z => h z.symm
theorem setW_keys (w : Wt) (d c : Int) : keysW (setW w d c) = if d ∈ keysW w then keysW w else keysW w ++ [d] := by
  unfold setW
  cases e : getW w d with
  | none =>
    rw [if_neg (getW_none.mp e)]
    show keysW (w ++ [(d, c)]) = _
    rw [keysW, List.map_append] <;> rfl
  | some x =>
    have h : d ∈ keysW w := by
      by_cases h : d ∈ keysW w
      · exact h
      · rw [getW_none.mpr h] at e
        cases e
    rw [if_pos h]
    show List.map _ (w.map _) = _
    rw [List.map_map] <;> rfl
theorem setW_nodup {w : Wt} {d c : Int} (h : (keysW w).Nodup) : (keysW (setW w d c)).Nodup := by
  rw [setW_keys]
  split
  · exact h
  · rename_i n
    exact List.nodup_append.mpr ⟨h, by simp, fun a ha b hb => by
      cases List.mem_singleton.mp hb
      exact fun z => n (z ▸ ha)⟩
theorem setW_len {w : Wt} {d c : Int} : (setW w d c).length ≤ w.length + 1 := by
  have h := congrArg List.length (setW_keys w d c)
  rw [List.length_map] at h
  rw [h]
  split <;> simp
theorem setW_mem {w : Wt} {d c x : Int} (h : x ∈ keysW (setW w d c)) : x = d ∨ x ∈ keysW w := by
  rw [setW_keys] at h
  split at h
  · exact .inr h
  · rcases List.mem_append.mp h with h | h
    · exact .inr h
    · exact .inl (List.mem_singleton.mp h)
/-- what the weights come to at a number -/
def evW (w : Wt) (n : Int) : Int := (w.map fun p => if n % p.1 = 0 then p.2 else 0).sum
theorem evW_cons (p : Int × Int) (w : Wt) (n : Int) : evW (p :: w) n = (if n % p.1 = 0 then p.2 else 0) + evW w n := by
  unfold evW
  rw [List.map_cons, List.sum_cons]
theorem evW_app (v w : Wt) (n : Int) : evW (v ++ w) n = evW v n + evW w n := by
  unfold evW
  rw [List.map_append, List.sum_append]
theorem evW_upd {d c x n : Int} : ∀ {w : Wt}, (keysW w).Nodup → getW w d = some x → evW (w.map fun p => (p.1, if p.1 = d then c else p.2)) n = evW w n + if n % d = 0 then c - x else 0
  | [], _, h => by cases h
  | p :: r, nd, h => by
    have nd' : p.1 ∉ keysW r ∧ (keysW r).Nodup := List.nodup_cons.mp nd
    have h' : (if p.1 = d then some p.2 else getW r d) = some x := h
    rw [List.map_cons, evW_cons, evW_cons]
    by_cases e : p.1 = d
    · rw [if_pos e] at h'
      cases h'
      have same : (r.map fun p => (p.1, if p.1 = d then c else p.2)) = r := by
        refine (List.map_congr_left fun q hq => ?_).trans (List.map_id r)
        have : q.1 ≠ d := fun z => nd'.1 (e ▸ z ▸ List.mem_map_of_mem hq)
        rw [if_neg this] <;> rfl
      rw [same]
      dsimp only
      rw [if_pos e, e]
      split <;> omega
    · rw [if_neg e] at h'
      rw [evW_upd nd'.2 h']
      dsimp only
      rw [if_neg e]
      omega
theorem evW_add {w : Wt} {d c n : Int} (nd : (keysW w).Nodup) : evW (addW w d c) n = evW w n + if n % d = 0 then c else 0 := by
  unfold addW setW
  cases e : getW w d with
  | none =>
    show evW (w ++ [(d, 0 + c)]) n = _
    rw [evW_app]
    show _ + evW [(d, 0 + c)] n = _
    rw [evW_cons]
    show _ + ((if n % d = 0 then 0 + c else 0) + 0) = _
    rw [Int.zero_add, Int.add_zero]
  | some x =>
    show evW (w.map fun p => (p.1, if p.1 = d then x + c else p.2)) n = _
    rw [evW_upd nd e]
    split <;> omega
/-- one divisor more -/
def stepW (w : Wt) (d : Int) : Wt := w.foldl (fun j p => addW j (lcmI p.1 d) (0 - 2 * p.2)) (addW w d 1)
theorem evW_fold {d n : Int} : ∀ (w j : Wt), (keysW j).Nodup → evW (w.foldl (fun j p => addW j (lcmI p.1 d) (0 - 2 * p.2)) j) n = evW j n - 2 * (if n % d = 0 then evW w n else 0) ∧ (keysW (w.foldl (fun j p => addW j (lcmI p.1 d) (0 - 2 * p.2)) j)).Nodup
  | [], j, h => by
    refine ⟨?_, h⟩
    show evW j n = _
    have : evW [] n = 0 := rfl
    rw [this, ite_self]
    omega
  | p :: w, j, h => by
    have h1 : (keysW (addW j (lcmI p.1 d) (0 - 2 * p.2))).Nodup := setW_nodup h
    obtain ⟨h2, h3⟩ := evW_fold (d := d) (n := n) w _ h1
    refine ⟨?_, h3⟩
    rw [List.foldl_cons, h2, evW_add h, evW_cons]
    have hl := mod_lcm n p.1 d
    by_cases e1 : n % p.1 = 0 <;> by_cases e2 : n % d = 0 <;> simp [e1, e2] at hl ⊢ <;> simp [hl] <;> omega
theorem evW_step {w : Wt} {d n : Int} (nd : (keysW w).Nodup) : evW (stepW w d) n = evW w n + (if n % d = 0 then 1 else 0) - 2 * (if n % d = 0 then evW w n else 0) ∧ (keysW (stepW w d)).Nodup := by
  have h1 : (keysW (addW w d 1)).Nodup := setW_nodup nd
  obtain ⟨h2, h3⟩ := evW_fold (d := d) (n := n) w _ h1
  exact ⟨by unfold stepW; rw [h2, evW_add nd], h3⟩
/-- the weights of a list of divisors -/
def weights (a : List Int) : Wt := a.foldl stepW []
theorem weights_snoc (a : List Int) (d : Int) : weights (a ++ [d]) = stepW (weights a) d := by
  unfold weights
  rw [List.foldl_append] <;> rfl
theorem weights_ok (n : Int) (a : List Int) : evW (weights a) n = (if pr a n = true then 1 else 0) ∧ (keysW (weights a)).Nodup := by
  refine rev_ind (P := fun a => evW (weights a) n = (if pr a n = true then 1 else 0) ∧ (keysW (weights a)).Nodup) ⟨rfl, List.nodup_nil⟩ (fun l d ⟨h1, h2⟩ => ?_) a
  obtain ⟨h3, h4⟩ := evW_step (d := d) (n := n) h2
  rw [weights_snoc]
  refine ⟨?_, h4⟩
  have e : pr [d] n = decide (n % d = 0) := by
    show xor (decide (n % d = 0)) false = _
    rw [Bool.xor_false]
  rw [h3, h1, pr_app, e]
  by_cases e2 : n % d = 0 <;> simp [e2] <;> cases pr l n <;> simp
/-- bounds of the weights -/
theorem addW_len {w : Wt} {d c : Int} : (addW w d c).length ≤ w.length + 1 := setW_len
theorem fold_len {d : Int} : ∀ (w j : Wt), (w.foldl (fun j p => addW j (lcmI p.1 d) (0 - 2 * p.2)) j).length ≤ j.length + w.length
  | [], j => Nat.le_refl _
  | p :: w, j => by
    have h1 := fold_len (d := d) w (addW j (lcmI p.1 d) (0 - 2 * p.2))
    have h2 := addW_len (w := j) (d := lcmI p.1 d) (c := 0 - 2 * p.2)
    rw [List.foldl_cons, List.length_cons]
    omega
theorem step_len (w : Wt) (d : Int) : (stepW w d).length ≤ 2 * w.length + 1 := by
  have h1 := fold_len (d := d) w (addW w d 1)
  have h2 := addW_len (w := w) (d := d) (c := 1)
  unfold stepW
  omega
theorem weights_len (a : List Int) : (weights a).length + 1 ≤ 2 ^ a.length := by
  refine rev_ind (P := fun a => (weights a).length + 1 ≤ 2 ^ a.length) (Nat.le_refl 1) (fun l d h => ?_) a
  have h1 := step_len (weights l) d
  rw [weights_snoc, List.length_append, List.length_singleton, Nat.pow_succ]
  omega
/-- the keys: positive, not too great -/
def KeB (b : Nat) (w : Wt) : Prop := ∀ m ∈ keysW w, 0 < m ∧ m < 2 ^ b
theorem addW_keb {b : Nat} {w : Wt} {d c : Int} (h : KeB b w) (hd : 0 < d ∧ d < 2 ^ b) : KeB b (addW w d c) := fun m hm => by
  rcases setW_mem hm with rfl | hm
  · exact hd
  · exact h m hm
theorem fold_keb {u b : Nat} {d : Int} (hd : 0 < d ∧ d < 2 ^ u) : ∀ (w j : Wt), KeB b w → KeB (b + u) j → KeB (b + u) (w.foldl (fun j p => addW j (lcmI p.1 d) (0 - 2 * p.2)) j)
  | [], j, _, h => h
  | p :: w, j, hw, h => fold_keb hd w _ (fun m hm => hw m (List.mem_cons_of_mem _ hm)) (addW_keb h (lcm_lt (hw p.1 List.mem_cons_self) hd))
theorem keb_up {b c : Nat} {w : Wt} (h : KeB b w) (hc : b ≤ c) : KeB c w := fun m hm => ⟨(h m hm).1, lt_up (h m hm).2 hc⟩
theorem step_keb {u b : Nat} {w : Wt} {d : Int} (h : KeB b w) (hd : 0 < d ∧ d < 2 ^ u) : KeB (b + u) (stepW w d) :=
  fold_keb hd w _ h (addW_keb (keb_up h (by omega)) ⟨hd.1, lt_up hd.2 (by omega)⟩)
theorem weights_keb {u : Nat} (a : List Int) (h : ∀ d ∈ a, 0 < d ∧ d < 2 ^ u) : KeB (u * a.length) (weights a) := by
  revert h
  refine rev_ind (P := fun a => (∀ d ∈ a, 0 < d ∧ d < 2 ^ u) → KeB (u * a.length) (weights a)) (fun _ m hm => by cases hm) (fun l d h hd => ?_) a
  rw [weights_snoc, List.length_append, List.length_singleton, Nat.mul_add, Nat.mul_one]
  exact step_keb (h fun x hx => hd x (List.mem_append_left _ hx)) (hd d (by simp))
/-- how great the weights are, all together -/
def absW (w : Wt) : Nat := (w.map fun p => p.2.natAbs).sum
theorem absW_cons (p : Int × Int) (w : Wt) : absW (p :: w) = p.2.natAbs + absW w := by
  unfold absW
  rw [List.map_cons, List.sum_cons]
theorem absW_app (v w : Wt) : absW (v ++ w) = absW v + absW w := by
  unfold absW
  rw [List.map_append, List.sum_append]
theorem absW_mem {w : Wt} {p : Int × Int} (h : p ∈ w) : p.2.natAbs ≤ absW w := by
  induction w with
  | nil => cases h
  | cons q r ih =>
    rw [absW_cons]
    rcases List.mem_cons.mp h with rfl | h
    · omega
    · have := ih h
      omega
theorem absW_upd {d c x : Int} : ∀ {w : Wt}, (keysW w).Nodup → getW w d = some x → absW (w.map fun p => (p.1, if p.1 = d then c else p.2)) + x.natAbs = absW w + c.natAbs
  | [], _, h => by cases h
  | p :: r, nd, h => by
    have nd' : p.1 ∉ keysW r ∧ (keysW r).Nodup := List.nodup_cons.mp nd
    have h' : (if p.1 = d then some p.2 else getW r d) = some x := h
    rw [List.map_cons, absW_cons, absW_cons]
    by_cases e : p.1 = d
    · rw [if_pos e] at h'
      cases h'
      have same : (r.map fun p => (p.1, if p.1 = d then c else p.2)) = r := by
        refine (List.map_congr_left fun q hq => ?_).trans (List.map_id r)
        have : q.1 ≠ d := fun z => nd'.1 (e ▸ z ▸ List.mem_map_of_mem hq)
        rw [if_neg this] <;> rfl
      rw [same]
      dsimp only
      rw [if_pos e]
      omega
    · rw [if_neg e] at h'
      have ih := absW_upd nd'.2 h' (c := c)
      dsimp only
      rw [if_neg e]
      omega
theorem absW_add {w : Wt} {d c : Int} (nd : (keysW w).Nodup) : absW (addW w d c) ≤ absW w + c.natAbs := by
  unfold addW setW
  cases e : getW w d with
  | none =>
    show absW (w ++ [(d, 0 + c)]) ≤ _
    rw [absW_app, absW_cons]
    have : absW [] = 0 := rfl
    dsimp only
    omega
  | some x =>
    show absW (w.map fun p => (p.1, if p.1 = d then x + c else p.2)) ≤ _
    have := absW_upd nd e (c := x + c)
    omega
theorem absW_fold {d : Int} : ∀ (w j : Wt), (keysW j).Nodup → absW (w.foldl (fun j p => addW j (lcmI p.1 d) (0 - 2 * p.2)) j) ≤ absW j + 2 * absW w
  | [], j, h => Nat.le_add_right _ _
  | p :: w, j, h => by
    have h1 := absW_fold (d := d) w (addW j (lcmI p.1 d) (0 - 2 * p.2)) (setW_nodup h)
    have h2 := absW_add (d := lcmI p.1 d) (c := 0 - 2 * p.2) h
    rw [List.foldl_cons, absW_cons]
    omega
theorem absW_step {w : Wt} {d : Int} (nd : (keysW w).Nodup) : absW (stepW w d) ≤ 3 * absW w + 1 := by
  have h1 := absW_fold (d := d) w (addW w d 1) (setW_nodup nd)
  have h2 := absW_add (d := d) (c := 1) nd
  unfold stepW
  have : (1 : Int).natAbs = 1 := rfl
  omega
theorem weights_abs (a : List Int) : absW (weights a) + 1 ≤ 4 ^ a.length := by
  refine rev_ind (P := fun a => absW (weights a) + 1 ≤ 4 ^ a.length) (Nat.le_refl 1) (fun l d h => ?_) a
  have h1 := absW_step (d := d) (weights_ok 0 l).2
  rw [weights_snoc, List.length_append, List.length_singleton, Nat.pow_succ]
  omega
theorem getW_mem {d x : Int} : ∀ {w : Wt}, getW w d = some x → (d, x) ∈ w
  | [], h => by cases h
  | p :: r, h => by
    have h' : (if p.1 = d then some p.2 else getW r d) = some x := h
    by_cases e : p.1 = d
    · rw [if_pos e] at h'
      cases h'
      subst e
      exact List.mem_cons_self
    · rw [if_neg e] at h'
      exact List.mem_cons_of_mem _ (getW_mem h')
theorem mem_getW {p : Int × Int} : ∀ {w : Wt}, (keysW w).Nodup → p ∈ w → getW w p.1 = some p.2
  | [], _, h => by cases h
  | q :: r, nd, h => by
    have nd' : q.1 ∉ keysW r ∧ (keysW r).Nodup := List.nodup_cons.mp nd
    show (if q.1 = p.1 then some q.2 else getW r p.1) = some p.2
    rcases List.mem_cons.mp h with rfl | h
    · rw [if_pos rfl]
    · rw [if_neg (fun (z : q.1 = p.1) => nd'.1 (by rw [z]; exact List.mem_map_of_mem h))]
      exact mem_getW nd'.2 h
/-! counting -/
def cntW (w : Wt) (N : Int) : Int := (w.map fun p => p.2 * (N / p.1)).sum
theorem div_step {N m : Int} (hm : 0 < m) : (N + 1) / m = N / m + if (N + 1) % m = 0 then 1 else 0 := by
  have h1 := Int.emod_add_mul_ediv N m
  have h2 := Int.emod_add_mul_ediv (N + 1) m
  have h3 := Int.emod_nonneg N (b := m) (by omega)
  have h4 := Int.emod_lt_of_pos N hm
  have h5 := Int.emod_nonneg (N + 1) (b := m) (by omega)
  have h6 := Int.emod_lt_of_pos (N + 1) hm
  split
  · rename_i e
    rw [e] at h2
    have e1 : m * ((N + 1) / m - N / m) = N % m + 1 := by
      rw [Int.mul_sub]
      omega
    have : (N + 1) / m - N / m = 1 := by
      have a1 : 0 < (N + 1) / m - N / m := Int.pos_of_mul_pos_right (a := m) (by omega) (by omega) |> fun h => h
      have a2 : (N + 1) / m - N / m < 2 := by
        refine Int.lt_of_mul_lt_mul_left (a := m) ?_ (by omega)
        omega
      omega
    omega
  · rename_i e
    have e1 : m * ((N + 1) / m - N / m) = N % m + 1 - (N + 1) % m := by
      rw [Int.mul_sub]
      omega
    have a1 : -1 < (N + 1) / m - N / m := by
      refine Int.lt_of_mul_lt_mul_left (a := m) ?_ (by omega)
      omega
    have a2 : (N + 1) / m - N / m < 1 := by
      refine Int.lt_of_mul_lt_mul_left (a := m) ?_ (by omega)
      omega
    omega
theorem cnt_step {N : Int} : ∀ {w : Wt}, (∀ m ∈ keysW w, 0 < m) → cntW w (N + 1) = cntW w N + evW w (N + 1)
  | [], _ => rfl
  | p :: r, h => by
    have ih := cnt_step (N := N) (w := r) fun m hm => h m (List.mem_cons_of_mem _ hm)
    rw [evW_cons]
    show p.2 * ((N + 1) / p.1) + cntW r (N + 1) = p.2 * (N / p.1) + cntW r N + _
    rw [ih, div_step (h p.1 List.mem_cons_self)]
    by_cases e : (N + 1) % p.1 = 0
    · rw [if_pos e, if_pos e, Int.mul_add]
      omega
    · rw [if_neg e, if_neg e, Int.add_zero]
      omega
theorem cnt_zero : ∀ w : Wt, cntW w 0 = 0
  | [] => rfl
  | p :: r => by
    show p.2 * (0 / p.1) + cntW r 0 = 0
    rw [cnt_zero r, Int.zero_ediv]
    omega
/-- how many numbers up to N are in a form -/
def cnt (a : List Int) (N : Nat) : Int := (((List.range N).filter fun (k : Nat) => pr a (1 + (k : Int))).length : Nat)
theorem cnt_succ (a : List Int) (N : Nat) : cnt a (N + 1) = cnt a N + if pr a (1 + (N : Int)) = true then 1 else 0 := by
  unfold cnt
  rw [List.range_succ, List.filter_append, List.length_append]
  by_cases h : pr a (1 + (N : Int)) = true <;> simp [h, List.filter]
theorem counted_cnt {a : List Int} (h : ∀ d ∈ a, 0 < d) (hk : ∀ m ∈ keysW (weights a), 0 < m) : ∀ N : Nat, cntW (weights a) N = cnt a N
  | 0 => cnt_zero _
  | N + 1 => by
    have e : ((N + 1 : Nat) : Int) = (N : Int) + 1 := by omega
    rw [e, cnt_step hk, counted_cnt h hk N, cnt_succ, (weights_ok _ a).1, Int.add_comm 1 (N : Int)]
end Dv

set_option maxRecDepth 100000
set_option maxHeartbeats 4000000
/-! the program's defs as data terms, printed by gen2.py -/
namespace Pg
open PySem PySem.Spec PyProof.Rows L2 Dv
/- is_integer : 0=thing -/
noncomputable def D_is_integer : DS := (sRet (dAnd (dUn (isiD okBt ansInt) (dVar 0)) (dNot (dUn (isiD okBt ansBl) (dVar 0)))))
noncomputable def m_is_integer : Fn := Run 1 D_is_integer
/- is_number : 0=thing -/
noncomputable def D_is_number : DS := (sRet (dAnd (dFz (dCall 1 m_is_integer (aCons (dVar 0) aNil))) (dOp pGe (dVar 0) (dC (.int 1)))))
noncomputable def m_is_number : Fn := Run 1 D_is_number
/- check_from : 0=number 1=least -/
noncomputable def D_check_from : DS := (sIf (bOr (bNot (bTest (dFz (dCall 1 m_is_integer (aCons (dVar 0) aNil))))) (bTest (dOp pLt (dVar 0) (dVar 1)))) (sRaise 14) sNext)
noncomputable def m_check_from : Fn := Run 2 D_check_from
/- check_number : 0=number -/
noncomputable def D_check_number : DS := (sDrop (dCall 2 m_check_from (aCons (dVar 0) (aCons (dC (.int 1)) aNil))))
noncomputable def m_check_number : Fn := Run 1 D_check_number
/- is_divisor : 0=thing -/
noncomputable def D_is_divisor : DS := (sRet (dAnd (dFz (dCall 1 m_is_number (aCons (dVar 0) aNil))) (dOp pLt (dVar 0) (dC (.int 100000000000000000000)))))
noncomputable def m_is_divisor : Fn := Run 1 D_is_divisor
/- are_divisors : 0=thing 1=divisor 2=low 3=high -/
noncomputable def D_are_divisors : DS := (sSeq (sIf (bOr (bNot (bTest (dUn (isiD okBt ansLst) (dVar 0)))) (bTest (dOp pGt (dBi (b1 lenD) (aCons (dVar 0) aNil)) (dC (.int 200))))) (sRet (dC (.bl false))) sNext) (sSeq (sIf (bNot (bTest (dBi (b1 allD) (aCons (dFz (dCompV 0 (tgN 1) [1] bYes (dFz (dCall 1 m_is_divisor (aCons (dVar 1) aNil))))) aNil)))) (sRet (dC (.bl false))) sNext) (sRet (dBi (b1 allD) (aCons (dFz (dComp (iA zipU (aCons (dVar 0) (aCons (dFz (dSlice (dVar 0) (ptSome (dC (.int 1))) ptNone)) aNil))) (tgT [(tgN 2), (tgN 3)]) [2, 3] bYes (dOp pLt (dVar 2) (dVar 3)))) aNil)))))
noncomputable def m_are_divisors : Fn := Run 4 D_are_divisors
/- divided_oddly : 0=number 1=divisors 2=divisor -/
noncomputable def D_divided_oddly : DS := (sRet (dOp pEq (dOp pMod (dBi (b1 lenD) (aCons (dFz (dCompV 1 (tgN 2) [2] (bTest (dOp pEq (dOp pMod (dVar 0) (dVar 2)) (dC (.int 0)))) (dVar 2))) aNil)) (dC (.int 2))) (dC (.int 1))))
noncomputable def m_divided_oddly : Fn := Run 3 D_divided_oddly
/- odd_times : 0=numbers 1=odd 2=number -/
noncomputable def D_odd_times : DS := (sSeq (sSet 1 dNewD) (sSeq (sFor (iL (dVar 0)) (tgN 2) (sPutD (dVar 1) (dVar 2) (dNot (dGetD (dVar 1) (dVar 2) (dC (.bl false)))))) (sRet (dBi (b1 sortedD) (aCons (dFz (dKeysT 1 2)) aNil)))))
noncomputable def m_odd_times : Fn := Run 3 D_odd_times
/- alone : 0=ones 1=others -/
noncomputable def D_alone : DS := (sRet (dCall 1 m_odd_times (aCons (dFz (dOp pAdd (dVar 0) (dVar 1))) aNil)))
noncomputable def m_alone : Fn := Run 2 D_alone
/- common : 0=ones 1=others 2=one 3=other -/
noncomputable def D_common : DS := (sRet (dCall 1 m_odd_times (aCons (dFz (dComp2 (iL (dVar 0)) (tgN 2) [2, 3] bYes (iL (dVar 1)) (tgN 3) [3] bYes (dBi (b2 lcmD) (aCons (dVar 2) (aCons (dVar 3) aNil))))) aNil)))
noncomputable def m_common : Fn := Run 4 D_common
/- form_divisors : 0=self -/
noncomputable def D_form_divisors : DS := (sRet (dBi (b1 listD) (aCons (dUn (pFld 0 "_held") (dVar 0)) aNil)))
noncomputable def m_form_divisors : Fn := Run 1 D_form_divisors
/- divisors_of : 0=other -/
noncomputable def D_divisors_of : DS := (sSeq (sIf (bNot (bTest (dUn (isiD (okOwn 0) fun _ => true) (dVar 0)))) (sRaise 15) sNext) (sRet (dProp 0 1 m_form_divisors (dVar 0))))
noncomputable def m_divisors_of : Fn := Run 1 D_divisors_of
/- form_init : 0=self 1=divisors -/
noncomputable def D_form_init : DS := (sSeq (sIf (bNot (bTest (dFz (dCall 1 m_are_divisors (aCons (dVar 1) aNil))))) (sRaise 11) sNext) (sSetF 0 "_held" (dVar 0) (dFz (dBi (b1 listD) (aCons (dVar 1) aNil)))))
noncomputable def m_form_init : Fn := Run 2 D_form_init
/- form_with : 0=divisors 1=made -/
noncomputable def D_form_with : DS := (sSeq (sSet 1 (dCe (dMake 0 2 (mkOf 0 m_form_init) (aCons (dFz (dLst aNil)) aNil)))) (sSeq (sSetF 0 "_held" (dVar 1) (dFz (dBi (b1 listD) (aCons (dVar 0) aNil)))) (sRet (dShare 1))))
noncomputable def m_form_with : Fn := Run 2 D_form_with
/- limited_form : 0=divisors -/
noncomputable def D_limited_form : DS := (sSeq (sIf (bTest (dOp pGt (dBi (b1 lenD) (aCons (dVar 0) aNil)) (dC (.int 200)))) (sRaise 16) sNext) (sRet (dCall 1 m_form_with (aCons (dVar 0) aNil))))
noncomputable def m_limited_form : Fn := Run 1 D_limited_form
/- form_call : 0=self 1=number -/
noncomputable def D_form_call : DS := (sSeq (sDrop (dCall 1 m_check_number (aCons (dVar 1) aNil))) (sRet (dCall 2 m_divided_oddly (aCons (dVar 1) (aCons (dUn (pFld 0 "_held") (dVar 0)) aNil)))))
noncomputable def m_form_call : Fn := Run 2 D_form_call
/- form_len : 0=self -/
noncomputable def D_form_len : DS := (sRet (dBi (b1 lenD) (aCons (dUn (pFld 0 "_held") (dVar 0)) aNil)))
noncomputable def m_form_len : Fn := Run 1 D_form_len
/- form_contains : 0=self 1=thing -/
noncomputable def D_form_contains : DS := (sRet (dAnd (dFz (dCall 1 m_is_number (aCons (dVar 1) aNil))) (dOp (pIn false) (dVar 1) (dUn (pFld 0 "_held") (dVar 0)))))
noncomputable def m_form_contains : Fn := Run 2 D_form_contains
/- form_eq : 0=self 1=other -/
noncomputable def D_form_eq : DS := (sRet (dAnd (dUn (isiD (okOwn 0) fun _ => true) (dVar 1)) (dOp pEq (dUn (pFld 0 "_held") (dVar 0)) (dUn (pFld 0 "_held") (dVar 1)))))
noncomputable def m_form_eq : Fn := Run 2 D_form_eq
/- form_xor : 0=self 1=other -/
noncomputable def D_form_xor : DS := (sRet (dCall 1 m_limited_form (aCons (dFz (dCall 2 m_alone (aCons (dUn (pFld 0 "_held") (dVar 0)) (aCons (dFz (dCall 1 m_divisors_of (aCons (dVar 1) aNil))) aNil)))) aNil)))
noncomputable def m_form_xor : Fn := Run 2 D_form_xor
/- form_and : 0=self 1=other -/
noncomputable def D_form_and : DS := (sRet (dCall 1 m_limited_form (aCons (dFz (dCall 2 m_common (aCons (dUn (pFld 0 "_held") (dVar 0)) (aCons (dFz (dCall 1 m_divisors_of (aCons (dVar 1) aNil))) aNil)))) aNil)))
noncomputable def m_form_and : Fn := Run 2 D_form_and
/- form_or : 0=self 1=other 2=others -/
noncomputable def D_form_or : DS := (sSeq (sSet 2 (dFz (dCall 1 m_divisors_of (aCons (dVar 1) aNil)))) (sRet (dCall 1 m_limited_form (aCons (dFz (dCall 2 m_alone (aCons (dFz (dCall 2 m_alone (aCons (dUn (pFld 0 "_held") (dVar 0)) (aCons (dVar 2) aNil)))) (aCons (dFz (dCall 2 m_common (aCons (dUn (pFld 0 "_held") (dVar 0)) (aCons (dVar 2) aNil)))) aNil)))) aNil))))
noncomputable def m_form_or : Fn := Run 3 D_form_or
/- form_invert : 0=self -/
noncomputable def D_form_invert : DS := (sRet (dCall 1 m_limited_form (aCons (dFz (dCall 2 m_alone (aCons (dUn (pFld 0 "_held") (dVar 0)) (aCons (dFz (dLst (aCons (dC (.int 1)) aNil))) aNil)))) aNil)))
noncomputable def m_form_invert : Fn := Run 1 D_form_invert
/- form_spread : 0=self 1=number 2=divisor -/
noncomputable def D_form_spread : DS := (sSeq (sDrop (dCall 1 m_check_number (aCons (dVar 1) aNil))) (sRet (dCall 1 m_form_with (aCons (dFz (dComp (iL (dUn (pFld 0 "_held") (dVar 0))) (tgN 2) [2] bYes (dOp pMul (dVar 2) (dVar 1)))) aNil))))
noncomputable def m_form_spread : Fn := Run 3 D_form_spread
/- form_scaled : 0=self 1=number 2=divisor -/
noncomputable def D_form_scaled : DS := (sSeq (sDrop (dCall 1 m_check_number (aCons (dVar 1) aNil))) (sRet (dCall 1 m_form_with (aCons (dFz (dCall 1 m_odd_times (aCons (dFz (dComp (iL (dUn (pFld 0 "_held") (dVar 0))) (tgN 2) [2] bYes (dOp pDiv (dVar 2) (dBi (b2 gcdD) (aCons (dVar 2) (aCons (dVar 1) aNil)))))) aNil))) aNil))))
noncomputable def m_form_scaled : Fn := Run 3 D_form_scaled
/- first_difference : 0=one 1=other 2=differing -/
noncomputable def D_first_difference : DS := (sSeq (sSet 2 (dFz (dCall 2 m_alone (aCons (dFz (dProp 0 1 m_form_divisors (dVar 0))) (aCons (dFz (dProp 0 1 m_form_divisors (dVar 1))) aNil))))) (sSeq (sIf (bNot (bTru (dVar 2))) (sRet (dC .non)) sNext) (sRet (dOp pIx (dVar 2) (dC (.int 0))))))
noncomputable def m_first_difference : Fn := Run 3 D_first_difference
/- least_outside : 0=one 1=other -/
noncomputable def D_least_outside : DS := (sRet (dCall 2 m_first_difference (aCons (dVar 0) (aCons (dFz (dBin 0 2 m_form_and (dVar 0) (dVar 1))) aNil))))
noncomputable def m_least_outside : Fn := Run 2 D_least_outside
/- within : 0=one 1=other -/
noncomputable def D_within : DS := (sRet (dOp (pIs false) (dFz (dCall 2 m_least_outside (aCons (dVar 0) (aCons (dVar 1) aNil)))) (dC .non)))
noncomputable def m_within : Fn := Run 2 D_within
/- period : 0=form 1=least 2=divisor -/
noncomputable def D_period : DS := (sSeq (sSet 1 (dC (.int 1))) (sSeq (sFor (iL (dProp 0 1 m_form_divisors (dVar 0))) (tgN 2) (sSet 1 (dBi (b2 lcmD) (aCons (dVar 1) (aCons (dVar 2) aNil))))) (sRet (dVar 1))))
noncomputable def m_period : Fn := Run 3 D_period
/- not_dividing : 0=form 1=number 2=divisor -/
noncomputable def D_not_dividing : DS := (sRet (dComp (iL (dProp 0 1 m_form_divisors (dVar 0))) (tgN 2) [2] (bTest (dOp pNe (dOp pMod (dVar 1) (dVar 2)) (dC (.int 0)))) (dVar 2)))
noncomputable def m_not_dividing : Fn := Run 3 D_not_dividing
/- is_period : 0=form 1=number -/
noncomputable def D_is_period : DS := (sSeq (sDrop (dCall 1 m_check_number (aCons (dVar 1) aNil))) (sRet (dOp pEq (dFz (dCall 2 m_not_dividing (aCons (dVar 0) (aCons (dVar 1) aNil)))) (dFz (dLst aNil)))))
noncomputable def m_is_period : Fn := Run 2 D_is_period
/- broken : 0=form 1=number 2=divisors 3=moving 4=place -/
noncomputable def D_broken : DS := (sSeq (sDrop (dCall 1 m_check_number (aCons (dVar 1) aNil))) (sSeq (sSet 2 (dFz (dCall 2 m_not_dividing (aCons (dVar 0) (aCons (dVar 1) aNil))))) (sSeq (sIf (bNot (bTru (dVar 2))) sNever sNext) (sSeq (sSet 3 (dFz (dCall 1 m_form_with (aCons (dVar 2) aNil)))) (sSeq (sSet 4 (dOp pIx (dVar 2) (dC (.int 0)))) (sSeq (sWhile (bTest (dCallO 0 2 m_form_call (dVar 3) (aCons (dOp pAdd (dVar 4) (dVar 1)) aNil))) (sAug 4 (fun x y => x + y) (dVar 1))) (sRet (dVar 4))))))))
noncomputable def m_broken : Fn := Run 5 D_broken
/- shows_broken : 0=form 1=number 2=thing -/
noncomputable def D_shows_broken : DS := (sSeq (sDrop (dCall 1 m_check_number (aCons (dVar 1) aNil))) (sRet (dAnd (dFz (dCall 1 m_is_number (aCons (dVar 2) aNil))) (dOp pNe (dCallO 0 2 m_form_call (dVar 0) (aCons (dVar 2) aNil)) (dCallO 0 2 m_form_call (dVar 0) (aCons (dOp pAdd (dVar 2) (dVar 1)) aNil))))))
noncomputable def m_shows_broken : Fn := Run 3 D_shows_broken
/- check_between : 0=number 1=least 2=greatest -/
noncomputable def D_check_between : DS := (sSeq (sDrop (dCall 2 m_check_from (aCons (dVar 0) (aCons (dVar 1) aNil)))) (sIf (bTest (dOp pGt (dVar 0) (dVar 2))) (sRaise 14) sNext))
noncomputable def m_check_between : Fn := Run 3 D_check_between
/- primes_of : 0=number 1=primes 2=factor -/
noncomputable def D_primes_of : DS := (sSeq (sSet 1 (dCe (dLst aNil))) (sSeq (sSet 2 (dC (.int 2))) (sSeq (sWhile (bTest (dOp pLe (dOp pMul (dVar 2) (dVar 2)) (dVar 0))) (sSeq (sIf (bTest (dOp pEq (dOp pMod (dVar 0) (dVar 2)) (dC (.int 0)))) (sDrop (dMt isL mApp (dVar 1) (aCons (dVar 2) aNil))) sNext) (sSeq (sWhile (bTest (dOp pEq (dOp pMod (dVar 0) (dVar 2)) (dC (.int 0)))) (sAugP 0 pDivS (dVar 2))) (sAug 2 (fun x y => x + y) (dC (.int 1)))))) (sSeq (sIf (bTest (dOp pGt (dVar 0) (dC (.int 1)))) (sDrop (dMt isL mApp (dVar 1) (aCons (dVar 0) aNil))) sNext) (sRet (dShare 1))))))
noncomputable def m_primes_of : Fn := Run 3 D_primes_of
/- wanted : 0=divisor 1=numbers 2=prime 3=number -/
noncomputable def D_wanted : DS := (sSeq (sDrop (dCall 3 m_check_between (aCons (dVar 0) (aCons (dC (.int 1)) (aCons (dC (.int 1000000000)) aNil))))) (sSeq (sSet 1 (dFz (dLst (aCons (dVar 0) aNil)))) (sSeq (sFor (iL (dCall 1 m_primes_of (aCons (dVar 0) aNil))) (tgN 2) (sSet 1 (dFz (dOp pAdd (dVar 1) (dFz (dCompV 1 (tgN 3) [3] bYes (dOp pDiv (dVar 3) (dVar 2)))))))) (sRet (dBi (b1 sortedD) (aCons (dVar 1) aNil))))))
noncomputable def m_wanted : Fn := Run 4 D_wanted
/- are_answers : 0=thing 1=answer -/
noncomputable def D_are_answers : DS := (sRet (dAnd (dUn (isiD okBt ansLst) (dVar 0)) (dBi (b1 allD) (aCons (dFz (dCompV 0 (tgN 1) [1] bYes (dUn (isiD okBt ansBl) (dVar 1)))) aNil))))
noncomputable def m_are_answers : Fn := Run 2 D_are_answers
/- has_divisor : 0=answers 1=divisor -/
noncomputable def D_has_divisor : DS := (sSeq (sIf (bNot (bTest (dFz (dCall 1 m_are_answers (aCons (dVar 0) aNil))))) (sRaise 13) sNext) (sSeq (sIf (bTest (dOp pNe (dBi (b1 lenD) (aCons (dVar 0) aNil)) (dBi (b1 lenD) (aCons (dFz (dCall 1 m_wanted (aCons (dVar 1) aNil))) aNil)))) (sRaise 13) sNext) (sRet (dOp pEq (dOp pMod (dMt isL mCnt (dVar 0) (aCons (dC (.bl true)) aNil)) (dC (.int 2))) (dC (.int 1))))))
noncomputable def m_has_divisor : Fn := Run 2 D_has_divisor
/- form_by : 0=answers 1=divisors 2=number 3=answer -/
noncomputable def D_form_by : DS := (sSeq (sIf (bOr (bNot (bTest (dFz (dCall 1 m_are_answers (aCons (dVar 0) aNil))))) (bTest (dOp pGt (dBi (b1 lenD) (aCons (dVar 0) aNil)) (dC (.int 300))))) (sRaise 13) sNext) (sSeq (sSet 1 (dCe (dLst aNil))) (sSeq (sFor (iA enumK (aCons (dVar 0) aNil)) (tgT [(tgN 2), (tgN 3)]) (sIf (bTest (dOp pNe (dFz (dCall 2 m_divided_oddly (aCons (dVar 2) (aCons (dVar 1) aNil)))) (dVar 3))) (sDrop (dMt isL mApp (dVar 1) (aCons (dVar 2) aNil))) sNext)) (sRet (dCall 1 m_limited_form (aCons (dShare 1) aNil))))))
noncomputable def m_form_by : Fn := Run 4 D_form_by
/- hiddenform_init : 0=self 1=divisors -/
noncomputable def D_hiddenform_init : DS := (sSeq (sSetF 0 "_form" (dVar 0) (dFz (dMake 0 2 (mkOf 0 m_form_init) (aCons (dVar 1) aNil)))) (sSetF 0 "_asked" (dVar 0) (dC (.int 0))))
noncomputable def m_hiddenform_init : Fn := Run 2 D_hiddenform_init
/- weights_of : 0=form 1=weights 2=divisor 3=joined 4=multiple 5=weight 6=both -/
noncomputable def D_weights_of : DS := (sSeq (sIf (bTest (dOp pGt (dLenO 0 m_form_len (dVar 0)) (dC (.int 12)))) (sRaise 16) sNext) (sSeq (sSet 1 dNewD) (sSeq (sFor (iL (dProp 0 1 m_form_divisors (dVar 0))) (tgN 2) (sSeq (sLockD 1 (sSet 3 (dDcomp (iLk keysL 1) (tgN 4) [4] bYes (dVar 4) (dSubA (dVar 1) (dVar 4))))) (sSeq (sPutD (dVar 3) (dVar 2) (dOp pAdd (dGetD (dVar 3) (dVar 2) (dC (.int 0))) (dC (.int 1)))) (sSeq (sLockD 1 (sFor (iLk itemsL 1) (tgT [(tgN 4), (tgN 5)]) (sSeq (sSet 6 (dBi (b2 lcmD) (aCons (dVar 4) (aCons (dVar 2) aNil)))) (sPutD (dVar 3) (dVar 6) (dOp pSub (dGetD (dVar 3) (dVar 6) (dC (.int 0))) (dOp pMul (dC (.int 2)) (dVar 5))))))) (sSet 1 (dVar 3)))))) (sRet (dVar 1)))))
noncomputable def m_weights_of : Fn := Run 7 D_weights_of
/- counted : 0=weights 1=limit 2=multiple -/
noncomputable def D_counted : DS := (sRet (dBi (b1 sumD) (aCons (dFz (dLockD 0 (dComp (iLk keysL 0) (tgN 2) [2] bYes (dOp pMul (dSubA (dVar 0) (dVar 2)) (dOp pDiv (dVar 1) (dVar 2)))))) aNil)))
noncomputable def m_counted : Fn := Run 3 D_counted
/- count_up_to : 0=form 1=limit -/
noncomputable def D_count_up_to : DS := (sSeq (sDrop (dCall 2 m_check_from (aCons (dVar 1) (aCons (dC (.int 0)) aNil)))) (sRet (dCall 2 m_counted (aCons (dFz (dCall 1 m_weights_of (aCons (dVar 0) aNil))) (aCons (dVar 1) aNil)))))
noncomputable def m_count_up_to : Fn := Run 2 D_count_up_to
/- nth : 0=form 1=index 2=weights 3=many 4=whole 5=part 6=error 7=weight 8=low 9=high 10=middle -/
noncomputable def D_nth : DS := (sSeq (sDrop (dCall 2 m_check_from (aCons (dVar 1) (aCons (dC (.int 0)) aNil)))) (sSeq (sSet 2 (dFz (dCall 1 m_weights_of (aCons (dVar 0) aNil)))) (sSeq (sIf (bTest (dOp pEq (dLenO 0 m_form_len (dVar 0)) (dC (.int 0)))) (sRaise 17) sNext) (sSeq (sSet 3 (dOp pAdd (dVar 1) (dC (.int 1)))) (sSeq (sSet 4 (dFz (dCall 1 m_period (aCons (dVar 0) aNil)))) (sSeq (sSet 5 (dFz (dCall 2 m_counted (aCons (dVar 2) (aCons (dVar 4) aNil))))) (sSeq (sSet 6 (dBi (b1 sumD) (aCons (dFz (dLockD 2 (dComp (iLk valsL 2) (tgN 7) [7] bYes (dBi (b1 absD) (aCons (dVar 7) aNil))))) aNil))) (sSeq (sSet 8 (dBi (b2 maxD) (aCons (dC (.int 0)) (aCons (dOp pDiv (dOp pMul (dOp pSub (dVar 3) (dVar 6)) (dVar 4)) (dVar 5)) aNil)))) (sSeq (sSet 9 (dOp pAdd (dOp pDiv (dOp pMul (dOp pAdd (dVar 3) (dVar 6)) (dVar 4)) (dVar 5)) (dC (.int 1)))) (sSeq (sWhile (bTest (dOp pGt (dOp pSub (dVar 9) (dVar 8)) (dC (.int 1)))) (sSeq (sSet 10 (dOp pDiv (dOp pAdd (dVar 8) (dVar 9)) (dC (.int 2)))) (sIf (bTest (dOp pLt (dFz (dCall 2 m_counted (aCons (dVar 2) (aCons (dVar 10) aNil)))) (dVar 3))) (sSet 8 (dVar 10)) (sSet 9 (dVar 10))))) (sRet (dVar 9))))))))))))
noncomputable def m_nth : Fn := Run 11 D_nth
/- following : 0=form 1=limit -/
noncomputable def D_following : DS := (sRet (dCall 2 m_nth (aCons (dVar 0) (aCons (dFz (dCall 2 m_count_up_to (aCons (dVar 0) (aCons (dVar 1) aNil)))) aNil))))
noncomputable def m_following : Fn := Run 2 D_following
/- share : 0=form 1=whole 2=part 3=common -/
noncomputable def D_share : DS := (sSeq (sSet 1 (dFz (dCall 1 m_period (aCons (dVar 0) aNil)))) (sSeq (sSet 2 (dFz (dCall 2 m_counted (aCons (dFz (dCall 1 m_weights_of (aCons (dVar 0) aNil))) (aCons (dVar 1) aNil))))) (sSeq (sSet 3 (dBi (b2 gcdD) (aCons (dVar 2) (aCons (dVar 1) aNil)))) (sRet (dTup (aCons (dOp pDiv (dVar 2) (dVar 3)) (aCons (dOp pDiv (dVar 1) (dVar 3)) aNil)))))))
noncomputable def m_share : Fn := Run 4 D_share
/- chain_with : 0=numerator 1=denominator 2=chain 3=last -/
noncomputable def D_chain_with : DS := (sSeq (sDrop (dCall 3 m_check_between (aCons (dVar 0) (aCons (dC (.int 0)) (aCons (dC (.int 999999)) aNil))))) (sSeq (sDrop (dCall 3 m_check_between (aCons (dVar 1) (aCons (dBi (b2 maxD) (aCons (dC (.int 1)) (aCons (dVar 0) aNil))) (aCons (dC (.int 999999)) aNil))))) (sSeq (sSet 2 (dCe (dLst aNil))) (sSeq (sSet 3 (dC (.int 1))) (sSeq (sWhile (bTest (dOp pGt (dVar 0) (dC (.int 0)))) (sSeq (sAugP 3 pMulS (dOp pDiv (dVar 1) (dVar 0))) (sSeq (sDrop (dMt isL mApp (dVar 2) (aCons (dVar 3) aNil))) (sSet 0 (dOp pMod (dVar 1) (dVar 0)))))) (sRet (dShare 2)))))))
noncomputable def m_chain_with : Fn := Run 4 D_chain_with
end Pg

set_option maxRecDepth 100000
set_option maxHeartbeats 4000000
/-! what the laws share, as data terms, printed by gen2.py -/
namespace Lw
open PySem PySem.Spec PyProof.Rows L2 Dv Pg
/- _law_tape : 0=script 1=k 2=cell_here -/
noncomputable def D__law_tape : DS := (sSeq (sSet 2 (dIf (bTest (dOp pLt (dVar 1) (dBi (b1 lenD) (aCons (dVar 0) aNil)))) (dBi (b1 absD) (aCons (dOp pIx (dVar 0) (dVar 1)) aNil)) (dC (.int 0)))) (sRet (dLst (aCons (dBi (b2 maxD) (aCons (dC (.int 0)) (aCons (dOp pSub (dVar 2) (dOp pPow (dC (.int 10)) (dC (.int 18)))) aNil))) (aCons (dOp pAdd (dOp pMul (dOp pMod (dVar 2) (dOp pAdd (dOp pPow (dC (.int 10)) (dC (.int 36))) (dC (.int 67)))) (dC (.int 71))) (dVar 1)) (aCons (dC (.int 0)) aNil))))))
noncomputable def m__law_tape : Fn := Run 3 D__law_tape
/- _law_next : 0=tape 1=many 2=digit 3=mixed -/
noncomputable def D__law_next : DS := (sSeq (sIf (bTest (dOp pGt (dOp pIx (dVar 0) (dC (.int 0))) (dC (.int 0)))) (sSeq (sSet 2 (dOp pMod (dOp pIx (dVar 0) (dC (.int 0))) (dVar 1))) (sSeq (sSetI (dVar 0) (dC (.int 0)) (dOp pDiv (dOp pIx (dVar 0) (dC (.int 0))) (dVar 1))) (sRet (dVar 2)))) sNext) (sSeq (sSetI (dVar 0) (dC (.int 2)) (dOp pAdd (dOp pIx (dVar 0) (dC (.int 2))) (dC (.int 1)))) (sSeq (sSet 3 (dOp pMod (dOp pPow (dOp pAdd (dOp pIx (dVar 0) (dC (.int 1))) (dOp pMul (dC (.int 1000000033)) (dOp pIx (dVar 0) (dC (.int 2))))) (dC (.int 3))) (dOp pAdd (dOp pPow (dC (.int 10)) (dC (.int 64))) (dC (.int 57))))) (sSeq (sSet 3 (dOp pMod (dOp pPow (dOp pAdd (dVar 3) (dOp pMul (dC (.int 998244397)) (dOp pIx (dVar 0) (dC (.int 2))))) (dC (.int 3))) (dOp pAdd (dOp pPow (dC (.int 10)) (dC (.int 64))) (dC (.int 9))))) (sRet (dOp pMod (dOp pDiv (dVar 3) (dC (.int 29983))) (dVar 1)))))))
noncomputable def m__law_next : Fn := Run 4 D__law_next
/- _law_one : 0=tape 1=way 2=found 3=prime 4=most 5=turn -/
noncomputable def D__law_one : DS := (sSeq (sIf (bTest (dOp pEq (dVar 1) (dC (.int 0)))) (sRet (dOp pAdd (dC (.int 1)) (dFz (dCall 2 m__law_next (aCons (dVar 0) (aCons (dC (.int 12)) aNil)))))) sNext) (sSeq (sIf (bTest (dOp pEq (dVar 1) (dC (.int 1)))) (sSeq (sSet 2 (dC (.int 1))) (sSeq (sFor (iL (dLst (aCons (dTup (aCons (dC (.int 2)) (aCons (dC (.int 12)) aNil))) (aCons (dTup (aCons (dC (.int 3)) (aCons (dC (.int 7)) aNil))) (aCons (dTup (aCons (dC (.int 5)) (aCons (dC (.int 4)) aNil))) aNil))))) (tgT [(tgN 3), (tgN 4)]) (sFor (iA rng1 (aCons (dFz (dCall 2 m__law_next (aCons (dVar 0) (aCons (dVar 4) aNil)))) aNil)) (tgN 5) (sSet 2 (dOp pMul (dVar 2) (dVar 3))))) (sRet (dVar 2)))) sNext) (sRet (dOp pIx (dFz (dLst (aCons (dOp pAdd (dC (.int 1)) (dFz (dCall 2 m__law_next (aCons (dVar 0) (aCons (dOp pSub (dOp pPow (dC (.int 10)) (dC (.int 20))) (dC (.int 1))) aNil))))) (aCons (dOp pSub (dOp pSub (dOp pPow (dC (.int 10)) (dC (.int 20))) (dC (.int 1))) (dFz (dCall 2 m__law_next (aCons (dVar 0) (aCons (dC (.int 5)) aNil))))) aNil)))) (dOp pMod (dVar 1) (dC (.int 2)))))))
noncomputable def m__law_one : Fn := Run 6 D__law_one
/- _law_rows : 0=tape 1=most 2=way 3=found 4=turn -/
noncomputable def D__law_rows : DS := (sSeq (sPar2 2 3 (aCons (dFz (dCall 2 m__law_next (aCons (dVar 0) (aCons (dC (.int 5)) aNil)))) (aCons (dCe (dLst aNil)) aNil))) (sSeq (sFor (iA rng1 (aCons (dFz (dCall 2 m__law_next (aCons (dVar 0) (aCons (dOp pAdd (dVar 1) (dC (.int 1))) aNil)))) aNil)) (tgN 4) (sDrop (dMt isL mApp (dVar 3) (aCons (dFz (dCall 2 m__law_one (aCons (dVar 0) (aCons (dOp pIx (dFz (dLst (aCons (dVar 2) (aCons (dFz (dCall 2 m__law_next (aCons (dVar 0) (aCons (dC (.int 4)) aNil)))) aNil)))) (dBi (b1 intD) (aCons (dOp pEq (dVar 2) (dC (.int 4))) aNil))) aNil)))) aNil)))) (sRet (dSortSetG (dVar 3)))))
noncomputable def m__law_rows : Fn := Run 5 D__law_rows
/- _law_holds : 0=rows 1=one_number 2=one -/
noncomputable def D__law_holds : DS := (sRet (dOp pEq (dOp pMod (dBi (b1 lenD) (aCons (dFz (dCompV 0 (tgN 2) [2] (bTest (dOp pEq (dOp pMod (dVar 1) (dVar 2)) (dC (.int 0)))) (dVar 2))) aNil)) (dC (.int 2))) (dC (.int 1))))
noncomputable def m__law_holds : Fn := Run 3 D__law_holds
/- _law_gcd : 0=one 1=other -/
noncomputable def D__law_gcd : DS := (sSeq (sWhile (bTest (dOp pGt (dVar 1) (dC (.int 0)))) (sPar2 0 1 (aCons (dVar 1) (aCons (dOp pMod (dVar 0) (dVar 1)) aNil)))) (sRet (dVar 0)))
noncomputable def m__law_gcd : Fn := Run 2 D__law_gcd
/- _law_odd : 0=rows 1=counts 2=one -/
noncomputable def D__law_odd : DS := (sSeq (sSet 1 dNewD) (sSeq (sFor (iL (dVar 0)) (tgN 2) (sPutD (dVar 1) (dVar 2) (dOp pAdd (dGetD (dVar 1) (dVar 2) (dC (.int 0))) (dC (.int 1))))) (sRet (dComp (iL (dBi (b1 srtD) (aCons (dVar 1) aNil))) (tgN 2) [2] (bTest (dOp pEq (dOp pMod (dSubA (dVar 1) (dVar 2)) (dC (.int 2))) (dC (.int 1)))) (dVar 2)))))
noncomputable def m__law_odd : Fn := Run 3 D__law_odd
/- _law_urn : 0=script 1=k 2=figure -/
noncomputable def D__law_urn : DS := (sSeq (sSet 2 (dIf (bTest (dOp pLt (dVar 1) (dBi (b1 lenD) (aCons (dVar 0) aNil)))) (dBi (b1 absD) (aCons (dOp pIx (dVar 0) (dVar 1)) aNil)) (dC (.int 0)))) (sRet (dLst (aCons (dBi (b2 maxD) (aCons (dC (.int 0)) (aCons (dOp pSub (dVar 2) (dOp pPow (dC (.int 10)) (dC (.int 18)))) aNil))) (aCons (dOp pAdd (dOp pMul (dOp pMod (dVar 2) (dOp pAdd (dOp pPow (dC (.int 10)) (dC (.int 39))) (dC (.int 3)))) (dC (.int 64))) (dVar 1)) (aCons (dC (.int 0)) aNil))))))
noncomputable def m__law_urn : Fn := Run 3 D__law_urn
/- _law_dip : 0=urn 1=size 2=digit 3=mixed -/
noncomputable def D__law_dip : DS := (sSeq (sIf (bTest (dOp pGt (dOp pIx (dVar 0) (dC (.int 0))) (dC (.int 0)))) (sSeq (sSet 2 (dOp pMod (dOp pIx (dVar 0) (dC (.int 0))) (dVar 1))) (sSeq (sSetI (dVar 0) (dC (.int 0)) (dOp pDiv (dOp pIx (dVar 0) (dC (.int 0))) (dVar 1))) (sRet (dVar 2)))) sNext) (sSeq (sSetI (dVar 0) (dC (.int 2)) (dOp pAdd (dOp pIx (dVar 0) (dC (.int 2))) (dC (.int 1)))) (sSeq (sSet 3 (dOp pMod (dOp pPow (dOp pAdd (dOp pIx (dVar 0) (dC (.int 1))) (dOp pMul (dC (.int 160481183)) (dOp pIx (dVar 0) (dC (.int 2))))) (dC (.int 3))) (dOp pAdd (dOp pPow (dC (.int 10)) (dC (.int 41))) (dC (.int 37))))) (sSeq (sSet 3 (dOp pMod (dOp pPow (dOp pAdd (dVar 3) (dOp pMul (dC (.int 49979693)) (dOp pIx (dVar 0) (dC (.int 2))))) (dC (.int 5))) (dOp pAdd (dOp pPow (dC (.int 10)) (dC (.int 38))) (dC (.int 133))))) (sRet (dOp pMod (dOp pDiv (dVar 3) (dC (.int 524287))) (dVar 1)))))))
noncomputable def m__law_dip : Fn := Run 4 D__law_dip
/- _law_some : 0=urn 1=every 2=way_here 3=it -/
noncomputable def D__law_some : DS := (sSeq (sSet 2 (dFz (dCall 2 m__law_dip (aCons (dVar 0) (aCons (dC (.int 4)) aNil))))) (sRet (dCompV 1 (tgN 3) [3] (bTest (dOp pLt (dFz (dCall 2 m__law_dip (aCons (dVar 0) (aCons (dC (.int 4)) aNil)))) (dOp pIx (dFz (dLst (aCons (dC (.int 1)) (aCons (dC (.int 2)) (aCons (dC (.int 3)) (aCons (dOp pMul (dC (.int 4)) (dFz (dCall 2 m__law_dip (aCons (dVar 0) (aCons (dC (.int 2)) aNil))))) aNil)))))) (dVar 2)))) (dVar 3))))
noncomputable def m__law_some : Fn := Run 4 D__law_some
/- _law_low : 0=urn 1=base 2=every 3=spot 4=turn -/
noncomputable def D__law_low : DS := (sSeq (sSet 1 (dOp pIx (dFz (dLst (aCons (dC (.int 12)) (aCons (dC (.int 30)) (aCons (dC (.int 36)) (aCons (dC (.int 60)) (aCons (dC (.int 64)) (aCons (dC (.int 72)) (aCons (dC (.int 90)) (aCons (dC (.int 1)) aNil)))))))))) (dFz (dCall 2 m__law_dip (aCons (dVar 0) (aCons (dC (.int 8)) aNil)))))) (sSeq (sSet 2 (dFz (dComp (iA rng2 (aCons (dC (.int 1)) (aCons (dOp pAdd (dVar 1) (dC (.int 1))) aNil))) (tgN 3) [3] (bTest (dOp pEq (dOp pMod (dVar 1) (dVar 3)) (dC (.int 0)))) (dVar 3)))) (sRet (dTup (aCons (dVar 1) (aCons (dFz (dComp (iA rng1 (aCons (dC (.int 2)) aNil)) (tgN 4) [4] bYes (dFz (dCall 2 m__law_some (aCons (dVar 0) (aCons (dVar 2) aNil)))))) aNil))))))
noncomputable def m__law_low : Fn := Run 5 D__law_low
/- _law_inside : 0=spots 1=at 2=it -/
noncomputable def D__law_inside : DS := (sRet (dOp pEq (dOp pMod (dBi (b1 lenD) (aCons (dFz (dCompV 0 (tgN 2) [2] (bTest (dOp pEq (dOp pMod (dVar 1) (dVar 2)) (dC (.int 0)))) (dVar 2))) aNil)) (dC (.int 2))) (dC (.int 1))))
noncomputable def m__law_inside : Fn := Run 3 D__law_inside
/- _law_great : 0=urn 1=many 2=pool 3=found 4=turn 5=made 6=step 7=factor 8=some -/
noncomputable def D__law_great : DS := (sSeq (sSet 2 (dFz (dLst (aCons (dC (.int 2)) (aCons (dC (.int 2)) (aCons (dC (.int 3)) (aCons (dC (.int 5)) (aCons (dC (.int 7)) (aCons (dC (.int 11)) (aCons (dC (.int 13)) (aCons (dC (.int 10007)) (aCons (dOp pAdd (dOp pPow (dC (.int 10)) (dC (.int 6))) (dC (.int 3))) (aCons (dOp pAdd (dOp pPow (dC (.int 10)) (dC (.int 9))) (dC (.int 7))) aNil))))))))))))) (sSeq (sSet 3 (dCe (dLst aNil))) (sSeq (sFor (iA rng1 (aCons (dOp pIx (dFz (dLst (aCons (dFz (dCall 2 m__law_dip (aCons (dVar 0) (aCons (dOp pAdd (dVar 1) (dC (.int 1))) aNil)))) (aCons (dVar 1) aNil)))) (dFz (dCall 2 m__law_dip (aCons (dVar 0) (aCons (dC (.int 2)) aNil))))) aNil)) (tgN 4) (sSeq (sSet 5 (dC (.int 1))) (sSeq (sFor (iA rng1 (aCons (dFz (dCall 2 m__law_dip (aCons (dVar 0) (aCons (dC (.int 6)) aNil)))) aNil)) (tgN 6) (sSeq (sSet 7 (dOp pIx (dVar 2) (dFz (dCall 2 m__law_dip (aCons (dVar 0) (aCons (dOp pIx (dFz (dLst (aCons (dC (.int 3)) (aCons (dC (.int 6)) (aCons (dC (.int 10)) aNil))))) (dFz (dCall 2 m__law_dip (aCons (dVar 0) (aCons (dC (.int 3)) aNil))))) aNil)))))) (sSet 5 (dIf (bTest (dOp pLt (dOp pMul (dVar 5) (dVar 7)) (dOp pPow (dC (.int 10)) (dC (.int 20))))) (dOp pMul (dVar 5) (dVar 7)) (dVar 5))))) (sSeq (sSet 8 (dFz (dLst (aCons (dVar 5) (aCons (dVar 5) (aCons (dOp pAdd (dC (.int 1)) (dFz (dCall 2 m__law_dip (aCons (dVar 0) (aCons (dC (.int 50)) aNil))))) (aCons (dOp pAdd (dC (.int 1)) (dFz (dCall 2 m__law_dip (aCons (dVar 0) (aCons (dOp pSub (dOp pPow (dC (.int 10)) (dC (.int 20))) (dC (.int 1))) aNil))))) aNil))))))) (sDrop (dMt isL mApp (dVar 3) (aCons (dOp pIx (dVar 8) (dFz (dCall 2 m__law_dip (aCons (dVar 0) (aCons (dC (.int 4)) aNil))))) aNil))))))) (sRet (dSortSetG (dVar 3))))))
noncomputable def m__law_great : Fn := Run 9 D__law_great
/- _law_common : 0=left 1=right -/
noncomputable def D__law_common : DS := (sSeq (sWhile (bTest (dOp pGt (dVar 1) (dC (.int 0)))) (sPar2 0 1 (aCons (dVar 1) (aCons (dOp pMod (dVar 0) (dVar 1)) aNil)))) (sRet (dVar 0)))
noncomputable def m__law_common : Fn := Run 2 D__law_common
/- _law_multiple : 0=spots 1=found 2=it -/
noncomputable def D__law_multiple : DS := (sSeq (sSet 1 (dC (.int 1))) (sSeq (sFor (iL (dVar 0)) (tgN 2) (sSet 1 (dOp pDiv (dOp pMul (dVar 1) (dVar 2)) (dFz (dCall 2 m__law_common (aCons (dVar 1) (aCons (dVar 2) aNil))))))) (sRet (dVar 1))))
noncomputable def m__law_multiple : Fn := Run 3 D__law_multiple
/- _law_odd_v2 : 0=spots 1=it -/
noncomputable def D__law_odd_v2 : DS := (sRet (dComp (iL (dSortSetG (dVar 0))) (tgN 1) [1] (bTest (dOp pEq (dOp pMod (dMt isL mCnt (dVar 0) (aCons (dVar 1) aNil)) (dC (.int 2))) (dC (.int 1)))) (dVar 1)))
noncomputable def m__law_odd_v2 : Fn := Run 2 D__law_odd_v2
/- _law_both : 0=spots 1=others 2=found 3=it 4=also -/
noncomputable def D__law_both : DS := (sSeq (sSet 2 (dCe (dLst aNil))) (sSeq (sFor (iL (dVar 0)) (tgN 3) (sDrop (dMt isL mExt (dVar 2) (aCons (dFz (dCompV 1 (tgN 4) [4] bYes (dOp pDiv (dOp pMul (dVar 3) (dVar 4)) (dFz (dCall 2 m__law_common (aCons (dVar 3) (aCons (dVar 4) aNil))))))) aNil)))) (sRet (dCall 1 m__law_odd_v2 (aCons (dShare 2) aNil)))))
noncomputable def m__law_both : Fn := Run 5 D__law_both
/- _law_vase : 0=script 1=blend 2=cell -/
noncomputable def D__law_vase : DS := (sSeq (sSet 1 (dOp pPow (dC (.int 41)) (dC (.int 22)))) (sSeq (sFor (iL (dSlice (dVar 0) ptNone (ptSome (dC (.int 40))))) (tgN 2) (sSet 1 (dOp pMod (dOp pAdd (dOp pMul (dVar 1) (dC (.int 4101842887655102017))) (dVar 2)) (dC (.int 170141183460469231731687303715884105727))))) (sRet (dLst (aCons (dCe (dComp (iL (dSlice (dVar 0) ptNone (ptSome (dC (.int 40))))) (tgN 2) [2] (bTest (dOp pGe (dBi (b1 absD) (aCons (dVar 2) aNil)) (dOp pPow (dC (.int 10)) (dC (.int 18))))) (dBi (b1 absD) (aCons (dVar 2) aNil)))) (aCons (dVar 1) (aCons (dC (.int 0)) aNil)))))))
noncomputable def m__law_vase : Fn := Run 3 D__law_vase
/- _law_stem : 0=vase 1=many 2=found 3=blend -/
noncomputable def D__law_stem : DS := (sSeq (sWhile (bAnd (bTest (dOp pNe (dOp pIx (dVar 0) (dC (.int 0))) (dFz (dLst aNil)))) (bTest (dOp pLt (dOp pIx (dOp pIx (dVar 0) (dC (.int 0))) (dC (.int 0))) (dC (.int 2))))) (sDrop (dMt isL mPop0 (dOp pIx (dVar 0) (dC (.int 0))) (aCons (dC (.int 0)) aNil)))) (sSeq (sIf (bTest (dOp pNe (dOp pIx (dVar 0) (dC (.int 0))) (dFz (dLst aNil)))) (sSeq (sSet 2 (dOp pMod (dOp pIx (dOp pIx (dVar 0) (dC (.int 0))) (dC (.int 0))) (dVar 1))) (sSeq (sSetI (dOp pIx (dVar 0) (dC (.int 0))) (dC (.int 0)) (dOp pDiv (dOp pIx (dOp pIx (dVar 0) (dC (.int 0))) (dC (.int 0))) (dVar 1))) (sRet (dVar 2)))) sNext) (sSeq (sSetI (dVar 0) (dC (.int 2)) (dOp pAdd (dOp pIx (dVar 0) (dC (.int 2))) (dC (.int 1)))) (sSeq (sSet 3 (dOp pAdd (dOp pMul (dOp pIx (dVar 0) (dC (.int 1))) (dOp pIx (dVar 0) (dC (.int 1)))) (dOp pMul (dOp pMul (dC (.int 70001)) (dOp pIx (dVar 0) (dC (.int 2)))) (dOp pIx (dVar 0) (dC (.int 2)))))) (sSeq (sSetI (dVar 0) (dC (.int 1)) (dOp pMod (dOp pAdd (dVar 3) (dOp pMul (dC (.int 31)) (dOp pIx (dVar 0) (dC (.int 2))))) (dC (.int 170141183460469231731687303715884105727)))) (sSeq (sSet 3 (dOp pAdd (dOp pMul (dOp pIx (dVar 0) (dC (.int 1))) (dOp pIx (dVar 0) (dC (.int 1)))) (dOp pMul (dC (.int 90001)) (dOp pIx (dVar 0) (dC (.int 2)))))) (sRet (dOp pMod (dOp pDiv (dOp pAdd (dOp pMul (dOp pIx (dVar 0) (dC (.int 1))) (dOp pPow (dC (.int 10)) (dC (.int 38)))) (dOp pMod (dVar 3) (dC (.int 170141183460469231731687303715884105727)))) (dOp pPow (dC (.int 2)) (dC (.int 35)))) (dVar 1)))))))))
noncomputable def m__law_stem : Fn := Run 4 D__law_stem
/- _law_drawn : 0=vase 1=most 2=wide 3=many 4=way 5=base 6=found 7=here 8=steps 9=turn 10=some -/
noncomputable def D__law_drawn : DS := (sSeq (sPar3 3 4 5 (aCons (dFz (dCall 2 m__law_stem (aCons (dVar 0) (aCons (dOp pAdd (dVar 1) (dC (.int 1))) aNil)))) (aCons (dFz (dCall 2 m__law_stem (aCons (dVar 0) (aCons (dC (.int 4)) aNil)))) (aCons (dOp pAdd (dC (.int 1)) (dFz (dCall 2 m__law_stem (aCons (dVar 0) (aCons (dVar 2) aNil))))) aNil)))) (sSeq (sPar3 6 7 8 (aCons (dCe (dLst aNil)) (aCons (dC (.int 1)) (aCons (dOp pAdd (dC (.int 1)) (dOp pMod (dVar 5) (dC (.int 7)))) aNil)))) (sSeq (sFor (iA rng1 (aCons (dVar 3) aNil)) (tgN 9) (sSeq (sSet 7 (dOp pMul (dVar 7) (dOp pAdd (dC (.int 1)) (dFz (dCall 2 m__law_stem (aCons (dVar 0) (aCons (dC (.int 4)) aNil))))))) (sSeq (sSet 10 (dCe (dLst (aCons (dOp pAdd (dC (.int 1)) (dFz (dCall 2 m__law_stem (aCons (dVar 0) (aCons (dVar 2) aNil))))) (aCons (dVar 7) (aCons (dOp pAdd (dC (.int 1)) (dFz (dCall 2 m__law_stem (aCons (dVar 0) (aCons (dBi (b2 minD) (aCons (dVar 2) (aCons (dC (.int 16)) aNil))) aNil))))) aNil)))))) (sSeq (sDrop (dMt isL mApp (dVar 10) (aCons (dOp pMul (dVar 8) (dOp pAdd (dC (.int 1)) (dFz (dCall 2 m__law_stem (aCons (dVar 0) (aCons (dBi (b2 maxD) (aCons (dC (.int 1)) (aCons (dOp pDiv (dVar 2) (dVar 8)) aNil))) aNil)))))) aNil))) (sDrop (dMt isL mApp (dVar 6) (aCons (dBi (b2 minD) (aCons (dVar 2) (aCons (dOp pIx (dVar 10) (dVar 4)) aNil))) aNil))))))) (sRet (dSortSetG (dVar 6))))))
noncomputable def m__law_drawn : Fn := Run 11 D__law_drawn
/- _law_is_in : 0=some 1=value 2=one -/
noncomputable def D__law_is_in : DS := (sRet (dOp pEq (dOp pMod (dBi (b1 lenD) (aCons (dFz (dCompV 0 (tgN 2) [2] (bTest (dOp pEq (dOp pMod (dVar 1) (dVar 2)) (dC (.int 0)))) (dC (.int 1)))) aNil)) (dC (.int 2))) (dC (.int 1))))
noncomputable def m__law_is_in : Fn := Run 3 D__law_is_in
/- _law_table : 0=some 1=top 2=value -/
noncomputable def D__law_table : DS := (sRet (dComp (iA rng2 (aCons (dC (.int 1)) (aCons (dOp pAdd (dVar 1) (dC (.int 1))) aNil))) (tgN 2) [2] (bTest (dFz (dCall 2 m__law_is_in (aCons (dVar 0) (aCons (dVar 2) aNil))))) (dVar 2)))
noncomputable def m__law_table : Fn := Run 3 D__law_table
/- _law_shared : 0=one 1=other -/
noncomputable def D__law_shared : DS := (sSeq (sWhile (bTest (dOp pGt (dVar 1) (dC (.int 0)))) (sPar2 0 1 (aCons (dVar 1) (aCons (dOp pMod (dVar 0) (dVar 1)) aNil)))) (sRet (dVar 0)))
noncomputable def m__law_shared : Fn := Run 2 D__law_shared
/- _law_terms : 0=some 1=found 2=one 3=longer 4=sign 5=joint -/
noncomputable def D__law_terms : DS := (sSeq (sSet 1 (dFz (dLst (aCons (dTup (aCons (dC (.int 1)) (aCons (dC (.int 1)) aNil))) aNil)))) (sSeq (sFor (iL (dVar 0)) (tgN 2) (sSeq (sSet 3 (dFz (dCompV 1 (tgT [(tgN 4), (tgN 5)]) [4, 5] bYes (dTup (aCons (dOp pSub (dC (.int 0)) (dOp pMul (dC (.int 2)) (dVar 4))) (aCons (dOp pMul (dOp pDiv (dVar 5) (dFz (dCall 2 m__law_shared (aCons (dVar 5) (aCons (dVar 2) aNil))))) (dVar 2)) aNil)))))) (sSet 1 (dFz (dOp pAdd (dVar 1) (dVar 3)))))) (sRet (dComp (iL (dSlice (dVar 1) (ptSome (dC (.int 1))) ptNone)) (tgT [(tgN 4), (tgN 5)]) [4, 5] bYes (dTup (aCons (dOp pSub (dC (.int 0)) (dOp pDiv (dVar 4) (dC (.int 2)))) (aCons (dVar 5) aNil)))))))
noncomputable def m__law_terms : Fn := Run 6 D__law_terms
/- _law_count : 0=terms 1=top 2=sign 3=joint -/
noncomputable def D__law_count : DS := (sRet (dBi (b1 sumD) (aCons (dFz (dCompV 0 (tgT [(tgN 2), (tgN 3)]) [2, 3] bYes (dOp pMul (dVar 2) (dOp pDiv (dVar 1) (dVar 3))))) aNil)))
noncomputable def m__law_count : Fn := Run 4 D__law_count
/- _law_length : 0=some 1=found 2=one -/
noncomputable def D__law_length : DS := (sSeq (sSet 1 (dC (.int 1))) (sSeq (sFor (iL (dVar 0)) (tgN 2) (sSet 1 (dOp pMul (dOp pDiv (dVar 1) (dFz (dCall 2 m__law_shared (aCons (dVar 1) (aCons (dVar 2) aNil))))) (dVar 2)))) (sRet (dVar 1))))
noncomputable def m__law_length : Fn := Run 3 D__law_length
/- _law_feed : 0=script 1=k 2=start -/
noncomputable def D__law_feed : DS := (sSeq (sSet 2 (dC (.int 0))) (sSeq (sIf (bTest (dOp pLt (dVar 1) (dBi (b1 lenD) (aCons (dVar 0) aNil)))) (sSet 2 (dOp pIx (dVar 0) (dVar 1))) sNext) (sRet (dLst (aCons (dBi (b2 maxD) (aCons (dC (.int 0)) (aCons (dOp pSub (dBi (b1 absD) (aCons (dVar 2) aNil)) (dOp pPow (dC (.int 10)) (dC (.int 18)))) aNil))) (aCons (dOp pMod (dOp pAdd (dOp pAdd (dOp pMul (dVar 2) (dC (.int 233))) (dOp pMul (dC (.int 6547)) (dVar 1))) (dC (.int 97))) (dC (.int 2305843009213693951))) (aCons (dC (.int 0)) aNil)))))))
noncomputable def m__law_feed : Fn := Run 3 D__law_feed
/- _law_decided : 0=is_first 1=items 2=n 3=found 4=divisor_here 5=said -/
noncomputable def D__law_decided : DS := (sSeq (sSet 3 (dC .non)) (sSeq (sFor (iL (dVar 1)) (tgT [(tgN 4), (tgN 5)]) (sIf (bAnd (bTest (dOp pEq (dOp pMod (dVar 2) (dVar 4)) (dC (.int 0)))) (bOr (bTest (dOp (pIs false) (dVar 3) (dC .non))) (bNot (bTest (dVar 0))))) (sSet 3 (dVar 5)) sNext)) (sRet (dOp (pIsB false) (dVar 3) (dC (.bl true))))))
noncomputable def m__law_decided : Fn := Run 6 D__law_decided
/- _law_lcm : 0=one 1=two 2=low 3=high -/
noncomputable def D__law_lcm : DS := (sSeq (sPar2 2 3 (aCons (dVar 0) (aCons (dVar 1) aNil))) (sSeq (sWhile (bTest (dOp pGt (dVar 2) (dC (.int 0)))) (sPar2 2 3 (aCons (dOp pMod (dVar 3) (dVar 2)) (aCons (dVar 2) aNil)))) (sRet (dOp pMul (dOp pDiv (dVar 0) (dVar 3)) (dVar 1)))))
noncomputable def m__law_lcm : Fn := Run 4 D__law_lcm
/- _law_odd_v3 : 0=numbers 1=found 2=n -/
noncomputable def D__law_odd_v3 : DS := (sSeq (sSet 1 dNewD) (sSeq (sFor (iL (dVar 0)) (tgN 2) (sPutD (dVar 1) (dVar 2) (dOp pAdd (dGetD (dVar 1) (dVar 2) (dC (.int 0))) (dC (.int 1))))) (sRet (dBi (b1 sortedD) (aCons (dFz (dKeysT 1 2)) aNil)))))
noncomputable def m__law_odd_v3 : Fn := Run 3 D__law_odd_v3
/- _law_lcms : 0=some 1=found 2=n 3=one -/
noncomputable def D__law_lcms : DS := (sSeq (sSet 1 dNewD) (sSeq (sFor (iL (dVar 0)) (tgN 2) (sSeq (sFor (iL (dBi (b1 listD) (aCons (dVar 1) aNil))) (tgN 3) (sPutD (dVar 1) (dFz (dCall 2 m__law_lcm (aCons (dVar 3) (aCons (dVar 2) aNil)))) (dC (.bl true)))) (sPutD (dVar 1) (dVar 2) (dC (.bl true))))) (sRet (dBi (b1 srtD) (aCons (dVar 1) aNil)))))
noncomputable def m__law_lcms : Fn := Run 4 D__law_lcms
/- _law_holds_v2 : 0=some 1=n 2=one -/
noncomputable def D__law_holds_v2 : DS := (sRet (dOp pEq (dOp pMod (dBi (b1 lenD) (aCons (dFz (dCompV 0 (tgN 2) [2] (bTest (dOp pEq (dOp pMod (dVar 1) (dVar 2)) (dC (.int 0)))) (dVar 2))) aNil)) (dC (.int 2))) (dC (.int 1))))
noncomputable def m__law_holds_v2 : Fn := Run 3 D__law_holds_v2
/- _law_bag : 0=script 1=stir 2=cell -/
noncomputable def D__law_bag : DS := (sSeq (sSet 1 (dC (.int 113))) (sSeq (sFor (iL (dSlice (dVar 0) ptNone (ptSome (dC (.int 63))))) (tgN 2) (sSet 1 (dOp pMod (dOp pAdd (dOp pAdd (dOp pMul (dVar 1) (dC (.int 48271))) (dOp pMod (dVar 2) (dC (.int 2147483629)))) (dC (.int 1))) (dC (.int 2147483647))))) (sRet (dLst (aCons (dFz (dComp (iL (dSlice (dVar 0) ptNone (ptSome (dC (.int 63))))) (tgN 2) [2] bYes (dOp pMod (dBi (b1 absD) (aCons (dVar 2) aNil)) (dOp pPow (dOp pPow (dC (.int 10)) (dC (.int 60))) (dC (.int 10)))))) (aCons (dC (.int 0)) (aCons (dC (.int 0)) (aCons (dVar 1) (aCons (dC (.int 0)) aNil)))))))))
noncomputable def m__law_bag : Fn := Run 3 D__law_bag
/- _law_gcd_v2 : 0=a 1=b 2=one 3=other 4=k -/
noncomputable def D__law_gcd_v2 : DS := (sSeq (sPar2 2 3 (aCons (dVar 0) (aCons (dVar 1) aNil))) (sSeq (sFor (iA rng1 (aCons (dC (.int 400)) aNil)) (tgN 4) (sSeq (sIf (bTest (dOp pEq (dVar 3) (dC (.int 0)))) (sRet (dVar 2)) sNext) (sPar2 2 3 (aCons (dVar 3) (aCons (dOp pMod (dVar 2) (dVar 3)) aNil))))) (sRet (dVar 2))))
noncomputable def m__law_gcd_v2 : Fn := Run 5 D__law_gcd_v2
/- _law_lcm_v2 : 0=a 1=b -/
noncomputable def D__law_lcm_v2 : DS := (sRet (dOp pMul (dOp pDiv (dVar 0) (dFz (dCall 2 m__law_gcd_v2 (aCons (dVar 0) (aCons (dVar 1) aNil))))) (dVar 1)))
noncomputable def m__law_lcm_v2 : Fn := Run 2 D__law_lcm_v2
/- _law_is_in_v2 : 0=divisors 1=number 2=one -/
noncomputable def D__law_is_in_v2 : DS := (sRet (dOp pEq (dOp pMod (dBi (b1 lenD) (aCons (dFz (dCompV 0 (tgN 2) [2] (bTest (dOp pEq (dOp pMod (dVar 1) (dVar 2)) (dC (.int 0)))) (dVar 2))) aNil)) (dC (.int 2))) (dC (.int 1))))
noncomputable def m__law_is_in_v2 : Fn := Run 3 D__law_is_in_v2
end Lw

set_option maxRecDepth 100000
set_option maxHeartbeats 4000000
/-! the law of K27 as data terms, printed by gen2.py -/
namespace K27
open PySem PySem.Spec PyProof.Rows L2 Dv Pg Lw
/- _law_right : 0=vase 1=some 2=made 3=row 4=tops 5=turn 6=value 7=top 8=due -/
noncomputable def D__law_right : DS := (sSeq (sPar2 2 3 (aCons (dFz (dMake 0 2 (mkOf 0 m_form_init) (aCons (dFz (dBi (b1 listD) (aCons (dVar 1) aNil))) aNil))) (aCons (dFz (dCall 2 m__law_table (aCons (dVar 1) (aCons (dC (.int 300)) aNil)))) aNil))) (sSeq (sSet 4 (dFz (dOp pAdd (dFz (dLst (aCons (dC (.int 0)) (aCons (dC (.int 1)) (aCons (dC (.int 300)) aNil))))) (dFz (dComp (iA rng1 (aCons (dC (.int 4)) aNil)) (tgN 5) [5] bYes (dFz (dCall 2 m__law_stem (aCons (dVar 0) (aCons (dC (.int 301)) aNil))))))))) (sSeq (sFor (iL (dOp pAdd (dFz (dSlice (dVar 3) ptNone (ptSome (dC (.int 6))))) (dFz (dSlice (dVar 3) (ptSome (dUn pNeg (dC (.int 3)))) ptNone)))) (tgN 6) (sSet 4 (dFz (dOp pAdd (dVar 4) (dFz (dLst (aCons (dVar 6) (aCons (dOp pSub (dVar 6) (dC (.int 1))) aNil)))))))) (sSeq (sFor (iL (dVar 4)) (tgN 7) (sSeq (sSet 8 (dBi (b1 lenD) (aCons (dFz (dCompV 3 (tgN 6) [6] (bTest (dOp pLe (dVar 6) (dVar 7))) (dVar 6))) aNil))) (sIf (bTest (dOp pNe (dBi (b1 reprD) (aCons (dFz (dLst (aCons (dFz (dCall 2 m_count_up_to (aCons (dVar 2) (aCons (dVar 7) aNil)))) (aCons (dFz (dCallK 2 2 m_count_up_to [1, 0] (aCons (dVar 7) (aCons (dVar 2) aNil)))) aNil)))) aNil)) (dBi (b1 reprD) (aCons (dFz (dLst (aCons (dVar 8) (aCons (dVar 8) aNil)))) aNil)))) (sRet (dC (.bl false))) sNext))) (sRet (dOp pEq (dFz (dProp 0 1 m_form_divisors (dVar 2))) (dVar 1)))))))
noncomputable def m__law_right : Fn := Run 9 D__law_right
/- law : 0=script 1=vase 2=lap 3=made 4=top -/
noncomputable def D_law : DS := (sSeq (sSet 1 (dCe (dCall 1 m__law_vase (aCons (dVar 0) aNil)))) (sSeq (sFor (iA rng1 (aCons (dOp pAdd (dC (.int 4)) (dOp pMul (dC (.int 2)) (dBi (b2 minD) (aCons (dBi (b1 lenD) (aCons (dVar 0) aNil)) (aCons (dC (.int 4)) aNil))))) aNil)) (tgN 2) (sIf (bNot (bTest (dFz (dCall 2 m__law_right (aCons (dVar 1) (aCons (dFz (dCall 3 m__law_drawn (aCons (dVar 1) (aCons (dC (.int 6)) (aCons (dOp pIx (dFz (dLst (aCons (dC (.int 12)) (aCons (dC (.int 60)) aNil)))) (dFz (dCall 2 m__law_stem (aCons (dVar 1) (aCons (dC (.int 2)) aNil))))) aNil))))) aNil)))))) (sRet (dC (.bl false))) sNext)) (sSeq (sSet 3 (dFz (dMake 0 2 (mkOf 0 m_form_init) (aCons (dFz (dLst (aCons (dC (.int 4)) (aCons (dC (.int 100)) (aCons (dC (.int 400)) aNil))))) aNil)))) (sRet (dOp pEq (dFz (dComp (iL (dLst (aCons (dC (.int 0)) (aCons (dC (.int 3)) (aCons (dC (.int 4)) (aCons (dC (.int 400)) (aCons (dC (.int 2000)) aNil))))))) (tgN 4) [4] bYes (dFz (dCall 2 m_count_up_to (aCons (dVar 3) (aCons (dVar 4) aNil)))))) (dFz (dLst (aCons (dC (.int 0)) (aCons (dC (.int 0)) (aCons (dC (.int 1)) (aCons (dC (.int 97)) (aCons (dC (.int 485)) aNil))))))))))))
noncomputable def m_law : Fn := Run 5 D_law
end K27

section
local macro_rules | `(tactic| top_caught0) => `(tactic| first | with_reducible assumption | exact Dv.ce_lt (by with_reducible assumption) | (simp; done) | (simp; omega))
local macro_rules | `(tactic| top_raiseB) => `(tactic| first | exact Dv.low_fo _ _ | exact Dv.lowL_ints _ _ | rfl | (simp; done) | with_reducible assumption)
local macro_rules | `(tactic| top_args) => `(tactic| first
  | ((with_reducible show Dv.Gs (Dv.sSeq _ _) _ _ _ _ _ _); with_reducible apply Dv.s_seq' ?_)
  | ((with_reducible show Dv.Gs (Dv.sSet _ _) _ _ _ _ _ _); with_reducible apply Dv.g_set ?_)
  | ((with_reducible show Dv.Gs (Dv.sIf _ _ _) _ _ _ _ _ _); with_reducible apply Dv.s_if' ?_)
  | ((with_reducible show Dv.Gs (Dv.sRet _) _ _ _ _ _ _); with_reducible apply Dv.s_ret' ?_)
  | ((with_reducible show Dv.Gs Dv.sNext _ _ _ _ _ _); with_reducible apply Dv.s_next' ?_)
  | ((with_reducible show Dv.Gs (Dv.sDrop _) _ _ _ _ _ _); with_reducible apply Dv.s_drop' ?_)
  | ((with_reducible show Dv.Gs (Dv.sPar2 _ _ _) _ _ _ _ _ _); with_reducible apply Dv.g_par2 ?_)
  | ((with_reducible show Dv.Gs (Dv.sPar3 _ _ _ _) _ _ _ _ _ _); with_reducible apply Dv.g_par3 ?_)
  | ((with_reducible show Dv.Gs (Dv.sAsg _ _) _ _ _ _ _ _); with_reducible apply Dv.g_asg ?_)
  | ((with_reducible show Dv.Gs (Dv.sAug _ _ _) (Dv.S.mk _ _ _) _ _ _ _ _); with_reducible apply Dv.g_aug' ?_)
  | ((with_reducible show Dv.Gs (Dv.sSetI _ _ _) _ _ _ _ _ _); with_reducible apply Dv.g_setI' ?_)
  | ((with_reducible show Dv.Gs (Dv.sPutD _ _ _) _ _ _ _ _ _); with_reducible apply Dv.g_putD' ?_)
  | ((with_reducible show Dv.Gs (Dv.sSetF _ _ _ _) _ _ _ _ _ _); with_reducible apply Dv.g_setF' ?_)
  | ((with_reducible show Dv.Gs (Dv.sFor _ _ _) _ _ _ _ _ _); with_reducible apply Dv.g_for' ?_)
  | ((with_reducible show Dv.Gs (Dv.sWhile _ _) _ _ _ _ _ _); with_reducible apply Dv.g_while ?_)
  | ((with_reducible show Dv.Gs (Dv.sRaise _) _ _ _ _ _ _); with_reducible apply Dv.s_raise' ?_)
  | ((with_reducible show Dv.Gs (Dv.sTry _ _) _ _ _ _ _ _); with_reducible apply Dv.g_try ?_)
  | (((with_reducible show Dv.Gs (Dv.sLockD _ _) (Dv.S.mk _ _ _) _ _ _ _ _); with_reducible apply Dv.g_lockS ?a1 ?_); (case a1 => top_raise0))
  | ((with_reducible show Dv.Gs (Dv.sAugP _ _ _) (Dv.S.mk _ _ _) _ _ _ _ _); with_reducible apply Dv.g_augP ?_)
  | ((with_reducible show Dv.Gs Dv.sBrk _ _ _ _ _ _); with_reducible apply Dv.s_brk' ?_)
  | ((with_reducible show Dv.Gs Dv.sCont _ _ _ _ _ _); with_reducible apply Dv.s_cont' ?_))
local macro_rules | `(tactic| top_argsB) => `(tactic| first
  | ((with_reducible show Dv.Gn (Dv.dVar _) (Dv.S.mk _ _ _) _ _ _ _); with_reducible apply Dv.g_var ?_)
  | ((with_reducible show Dv.Gn (Dv.dC _) _ _ _ _ _); with_reducible apply Dv.n_c ?_)
  | ((with_reducible show Dv.Gn (Dv.dFz _) _ _ _ _ _); with_reducible apply Dv.n_fz ?_)
  | ((with_reducible show Dv.Gn (Dv.dOp _ _ _) _ _ _ _ _); with_reducible apply Dv.g_op' ?_)
  | ((with_reducible show Dv.Gn (Dv.dCall _ _ _) _ _ _ _ _); with_reducible apply Dv.g_call1 ?_)
  | ((with_reducible show Dv.Gn (Dv.dBi _ _) _ _ _ _ _); with_reducible apply Dv.g_bi ?_)
  | ((with_reducible show Dv.Gn (Dv.dUn _ _) _ _ _ _ _); with_reducible apply Dv.g_un ?_)
  | ((with_reducible show Dv.Gn (Dv.dLst _) _ _ _ _ _); with_reducible apply Dv.n_lst ?_)
  | ((with_reducible show Dv.Gn (Dv.dTup _) _ _ _ _ _); with_reducible apply Dv.n_tup ?_)
  | ((with_reducible show Dv.Gn (Dv.dCe _) _ _ _ _ _); with_reducible apply Dv.g_ce ?_)
  | ((with_reducible show Dv.Gn (Dv.dIf _ _ _) _ _ _ _ _); with_reducible apply Dv.n_if ?_)
  | ((with_reducible show Dv.Gn (Dv.dAnd _ _) _ _ _ _ _); with_reducible apply Dv.n_and ?_)
  | ((with_reducible show Dv.Gn (Dv.dOr _ _) _ _ _ _ _); with_reducible apply Dv.n_or ?_)
  | ((with_reducible show Dv.Gn (Dv.dNot _) _ _ _ _ _); with_reducible apply Dv.n_not ?_)
  | ((with_reducible show Dv.Gn (Dv.dSlice _ _ _) _ _ _ _ _); with_reducible apply Dv.g_slice ?_)
  | ((with_reducible show Dv.Gn (Dv.dOwn1 _ _ _ _) _ _ _ _ _); with_reducible apply Dv.g_own1 ?_)
  | ((with_reducible show Dv.Gn (Dv.dEqO _ _ _ _ _) _ _ _ _ _); with_reducible apply Dv.g_eqO ?_)
  | ((with_reducible show Dv.Gn (Dv.dProp _ _ _ _) _ _ _ _ _); with_reducible apply Dv.g_prop ?_)
  | ((with_reducible show Dv.Gn (Dv.dMeth _ _ _ _ _ _) _ _ _ _ _); with_reducible apply Dv.g_meth ?_)
  | ((with_reducible show Dv.Gn (Dv.dCallO _ _ _ _ _) _ _ _ _ _); with_reducible apply Dv.g_callO ?_)
  | ((with_reducible show Dv.Gn (Dv.dMake _ _ _ _) _ _ _ _ _); with_reducible apply Dv.g_make ?_)
  | ((with_reducible show Dv.Gn (Dv.dCallK _ _ _ _ _) _ _ _ _ _); with_reducible apply Dv.g_callK' ?_)
  | ((with_reducible show Dv.Gn (Dv.dMethK _ _ _ _ _ _ _ _) _ _ _ _ _); with_reducible apply Dv.g_methK' ?_)
  | ((with_reducible show Dv.Gn (Dv.dInO _ _ _ _) _ _ _ _ _); with_reducible apply Dv.g_inO ?_)
  | ((with_reducible show Dv.Gn (Dv.dNotInO _ _ _ _) _ _ _ _ _); with_reducible apply Dv.g_notInO ?_)
  | ((with_reducible show Dv.Gn (Dv.dLenO _ _ _) _ _ _ _ _); with_reducible apply Dv.g_lenO ?_)
  | ((with_reducible show Dv.Gn (Dv.dMt _ _ _ _) _ _ _ _ _); with_reducible apply Dv.g_mt ?_)
  | ((with_reducible show Dv.Gn Dv.dNewD _ _ _ _ _); with_reducible apply Dv.g_newD ?_)
  | (((with_reducible show Dv.Gn (Dv.dShare _) (Dv.S.mk _ _ _) _ _ _ _); with_reducible apply Dv.g_shareI ?a1 ?a2 ?_); (case a1 => first | exact Nat.le_refl _ | top_caughtB); (case a2 => top_raise0))
  | (((with_reducible show Dv.Gn (Dv.dShare _) (Dv.S.mk _ _ _) _ _ _ _); with_reducible apply Dv.g_shareL ?a1 ?a2 ?_); (case a1 => first | exact Nat.le_refl _ | top_caughtB); (case a2 => top_raise0))
  | ((with_reducible show Dv.Gn (Dv.dGetD _ _ _) _ _ _ _ _); with_reducible apply Dv.g_getD ?_)
  | ((with_reducible show Dv.Gn (Dv.dSubD _ _) _ _ _ _ _); with_reducible apply Dv.g_subD ?_)
  | ((with_reducible show Dv.Gn (Dv.dSortSet _) _ _ _ _ _); with_reducible apply Dv.g_sortSet ?_)
  | ((with_reducible show Dv.Gn (Dv.dSortSetG _) _ _ _ _ _); with_reducible apply Dv.n_sortSetG ?_)
  | (((with_reducible show Dv.Gn (Dv.dLockD _ _) (Dv.S.mk _ _ _) _ _ _ _); with_reducible apply Dv.g_lockE ?a1 ?_); (case a1 => top_raise0))
  | ((with_reducible show Dv.Gn (Dv.dSubA _ _) _ _ _ _ _); with_reducible apply Dv.g_subA ?_)
  | ((with_reducible show Dv.Gn (Dv.dDcomp _ _ _ _ _ _) _ _ _ _ _); with_reducible apply Dv.n_dcomp ?_)
  | ((with_reducible show Dv.Gn (Dv.dListRg2 _ _) _ _ _ _ _); with_reducible apply Dv.n_listRg2 ?_)
  | ((with_reducible show Dv.Gn (Dv.dListZip _) _ _ _ _ _); with_reducible apply Dv.n_listZip ?_)
  | ((with_reducible show Dv.Gn (Dv.dComp _ _ _ _ _) _ _ _ _ _); with_reducible apply Dv.n_comp ?_)
  | ((with_reducible show Dv.Gn (Dv.dCompV _ _ _ _ _) (Dv.S.mk _ _ _) _ _ _ _); with_reducible apply Dv.g_compV ?_)
  | ((with_reducible show Dv.Gn (Dv.dCompV _ _ _ _ _) (Dv.S.mk _ _ _) _ _ _ _); with_reducible apply Dv.g_compVr ?_)
  | ((with_reducible show Dv.Gn (Dv.dComp2 _ _ _ _ _ _ _ _ _) _ _ _ _ _); with_reducible apply Dv.n_comp2 ?_))
local macro_rules | `(tactic| top_caught) => `(tactic| first
  | ((with_reducible show Dv.Gq (Dv.pAdd _ (Dv.D.int _) (Dv.D.int _)) _ _ _); with_reducible apply Dv.q_add ?_)
  | ((with_reducible show Dv.Gq (Dv.pSub _ (Dv.D.int _) (Dv.D.int _)) _ _ _); with_reducible apply Dv.q_sub ?_)
  | ((with_reducible show Dv.Gq (Dv.pEq _ (Dv.D.int _) (Dv.D.int _)) _ _ _); with_reducible apply Dv.q_eqI ?_)
  | ((with_reducible show Dv.Gq (Dv.pNe _ (Dv.D.int _) (Dv.D.int _)) _ _ _); with_reducible apply Dv.q_neI ?_)
  | ((with_reducible show Dv.Gq (Dv.pCmp _ _ (Dv.D.int _) (Dv.D.int _)) _ _ _); with_reducible apply Dv.q_cmp ?_)
  | ((with_reducible show Dv.Gq (Dv.pEq _ (Dv.D.lst (List.map Dv.D.int [])) (Dv.D.lst [])) _ _ _); with_reducible apply Dv.q_eqE0 ?_)
  | ((with_reducible show Dv.Gq (Dv.pEq _ (Dv.D.lst (List.map Dv.D.int (_ :: _))) (Dv.D.lst [])) _ _ _); with_reducible apply Dv.q_eqE1 ?_)
  | ((with_reducible show Dv.Gq (Dv.pEq _ (Dv.D.lst (List.map Dv.D.int _)) (Dv.D.lst [])) _ _ _); with_reducible apply Dv.q_eqE ?_)
  | ((with_reducible show Dv.Gq (Dv.pNe _ (Dv.D.lst (List.map Dv.D.int [])) (Dv.D.lst [])) _ _ _); with_reducible apply Dv.q_neE0 ?_)
  | ((with_reducible show Dv.Gq (Dv.pNe _ (Dv.D.lst (List.map Dv.D.int (_ :: _))) (Dv.D.lst [])) _ _ _); with_reducible apply Dv.q_neE1 ?_)
  | ((with_reducible show Dv.Gq (Dv.pNe _ (Dv.D.lst (List.map Dv.D.int _)) (Dv.D.lst [])) _ _ _); with_reducible apply Dv.q_neE ?_)
  | ((with_reducible show Dv.Gq (Dv.pIx _ (Dv.D.lst (List.map Dv.D.int (_ :: _))) (Dv.D.int 0)) _ _ _); with_reducible apply Dv.q_ix1 ?_)
  | ((with_reducible show Dv.Gq (Dv.b1 Dv.reprD _ [Dv.D.non]) _ _ _); with_reducible apply Dv.q_reprN ?_)
  | (((with_reducible show Dv.Gq (Dv.b1 Dv.reprD _ [Dv.D.int _]) _ _ _); with_reducible apply Dv.q_reprI ?a1 ?a2 ?_); (case a1 => with_reducible assumption); (case a2 => decide))
  | (((with_reducible show Dv.Gq (Dv.pEq _ (Dv.D.str _) (Dv.D.str _)) _ _ _); with_reducible apply Dv.q_eqS ?a1 ?_); (case a1 => first | with_reducible assumption | exact Dv.sok_non | exact Dv.sok_int _))
  | (((with_reducible show Dv.Gq (Dv.pNe _ (Dv.D.str _) (Dv.D.str _)) _ _ _); with_reducible apply Dv.q_neS ?a1 ?_); (case a1 => first | with_reducible assumption | exact Dv.sok_non | exact Dv.sok_int _))
  | ((with_reducible show Dv.Gq (Dv.pEq _ (Dv.lI _) (Dv.lI _)) _ _ _); with_reducible apply Dv.q_eqL ?_)
  | ((with_reducible show Dv.Gq (Dv.pNe _ (Dv.lI _) (Dv.lI _)) _ _ _); with_reducible apply Dv.q_neL ?_)
  | (((with_reducible show Dv.Gq (Dv.pNe _ (Dv.D.rf _) _) _ _ _); with_reducible apply Dv.q_neC ?a1 ?_); (case a1 => top_raise0))
  | (((with_reducible show Dv.Gq (Dv.pEq _ (Dv.D.rf _) _) _ _ _); with_reducible apply Dv.q_eqC ?a1 ?_); (case a1 => top_raise0))
  | (((with_reducible show Dv.Gq (Dv.pMod _ (Dv.D.int _) (Dv.D.int _)) _ _ _); with_reducible apply Dv.q_mod ?a1 ?_); (case a1 => top_caughtB))
  | (((with_reducible show Dv.Gq (Dv.pDiv _ (Dv.D.int _) (Dv.D.int _)) _ _ _); with_reducible apply Dv.q_div ?a1 ?a2 ?_); (case a1 => top_caughtB); (case a2 => top_caughtB))
  | (((with_reducible show Dv.Gq (Dv.pMul _ (Dv.D.int _) (Dv.D.int _)) _ _ _); with_reducible apply Dv.q_mul ?a1 ?_); (case a1 => top_caughtB))
  | (((with_reducible show Dv.Gq (Dv.pPow _ (Dv.D.int _) (Dv.D.int _)) _ _ _); with_reducible apply Dv.q_powL ?a1 ?a2 ?_); (case a2 => (simp only [Int.reduceToNat, Int.reducePow]; rfl)); (case a1 => decide +kernel))
  | (((with_reducible show Dv.Gq (Dv.pPow _ (Dv.D.int _) (Dv.D.int _)) _ _ _); with_reducible apply Dv.q_pow ?a1 ?_); (case a1 => first | with_reducible assumption | decide +kernel))
  | (((with_reducible show Dv.Gq (Dv.b2 Dv.lcmD _ [Dv.D.int _, Dv.D.int _]) _ _ _); with_reducible apply Dv.q_lcm ?a1 ?a2 ?_); (case a1 => top_caughtB); (case a2 => top_caughtB))
  | ((with_reducible show Dv.Gq (Dv.b2 Dv.gcdD _ [Dv.D.int _, Dv.D.int _]) _ _ _); with_reducible apply Dv.q_gcd ?_)
  | ((with_reducible show Dv.Gq (Dv.b2 Dv.maxD _ [Dv.D.int _, Dv.D.int _]) _ _ _); with_reducible apply Dv.q_max ?_)
  | ((with_reducible show Dv.Gq (Dv.b2 Dv.minD _ [Dv.D.int _, Dv.D.int _]) _ _ _); with_reducible apply Dv.q_min ?_)
  | ((with_reducible show Dv.Gq (Dv.b1 Dv.absD _ [Dv.D.int _]) _ _ _); with_reducible apply Dv.q_abs ?_)
  | ((with_reducible show Dv.Gq (Dv.b1 Dv.intD _ [Dv.D.int _]) _ _ _); with_reducible apply Dv.q_intI ?_)
  | ((with_reducible show Dv.Gq (Dv.b1 Dv.intD _ [Dv.D.bl _]) _ _ _); with_reducible apply Dv.q_intB ?_)
  | ((with_reducible show Dv.Gq (Dv.pNeg _ (Dv.D.int _)) _ _ _); with_reducible apply Dv.q_neg ?_)
  | ((with_reducible show Dv.Gq (Dv.pIs Bool.false _ Dv.D.non Dv.D.non) _ _ _); with_reducible apply Dv.q_isN ?_)
  | ((with_reducible show Dv.Gq (Dv.pIsB Bool.false _ (Dv.D.bl _) (Dv.D.bl _)) _ _ _); with_reducible apply Dv.q_isB ?_)
  | ((with_reducible show Dv.Gq (Dv.pIsB Bool.true _ (Dv.D.bl _) (Dv.D.bl _)) _ _ _); with_reducible apply Dv.q_notB ?_)
  | (((with_reducible show Dv.Gq (Dv.pMulS _ (Dv.D.int _) (Dv.D.int _)) _ _ _); with_reducible apply Dv.q_mulS ?a1 ?_); (case a1 => first | with_reducible assumption | omega))
  | (((with_reducible show Dv.Gq (Dv.pDivS _ (Dv.D.int _) (Dv.D.int _)) _ _ _); with_reducible apply Dv.q_divS ?a1 ?_); (case a1 => first | with_reducible assumption | omega))
  | (((with_reducible show Dv.Gq (Dv.isxD _ _ (Dv.D.xc _ _)) _ _ _); with_reducible apply Dv.q_isx ?a1 ?_); (case a1 => with_unfolding_all rfl))
  | (((with_reducible show Dv.Gq (Dv.pRep _ (Dv.D.lst _) (Dv.D.int _)) _ _ _); with_reducible apply Dv.q_repL ?a1 ?_); (case a1 => first | decide | (simp; done) | (simp; omega)))
  | ((with_reducible show Dv.Gq (Dv.pIs Bool.false _ (Dv.D.int _) Dv.D.non) _ _ _); with_reducible apply Dv.q_isI ?_)
  | (((with_reducible show Dv.Gq (Dv.pFld _ _ _ _) _ _ _); with_reducible apply Dv.q_fld ?a1 ?a2 ?_); (case a1 => with_unfolding_all rfl); (case a2 => with_unfolding_all rfl))
  | (((with_reducible show Dv.Gq (Dv.isiD _ _ _ _) _ _ _); with_reducible apply Dv.q_isi' (v := true) ?a1 ?a2 ?a3 ?_); (case a1 => with_unfolding_all rfl); (case a2 => with_unfolding_all rfl); (case a3 => with_unfolding_all rfl))
  | (((with_reducible show Dv.Gq (Dv.isiD _ _ _ _) _ _ _); with_reducible apply Dv.q_isi' (v := false) ?a1 ?a2 ?a3 ?_); (case a1 => with_unfolding_all rfl); (case a2 => with_unfolding_all rfl); (case a3 => with_unfolding_all rfl))
  | (((with_reducible show Dv.Gq (Dv.pIx _ (Dv.D.rf _) (Dv.D.int 0)) _ _ _); with_reducible apply Dv.q_ixC1 ?a1 ?_); (case a1 => top_raise0))
  | (((with_reducible show Dv.Gq (Dv.pIx _ (Dv.D.rf _) (Dv.D.int _)) _ _ _); with_reducible apply Dv.q_ixC ?a1 ?a2 ?_); (case a1 => top_raise0); (case a2 => first | with_unfolding_all rfl | top_raise))
  | (((with_reducible show Dv.Gq (Dv.b1 Dv.lenD _ [Dv.D.rf _]) _ _ _); with_reducible apply Dv.q_lenC ?a1 ?_); (case a1 => top_raise0))
  | (((with_reducible show Dv.Gq (Dv.b1 Dv.listD _ [Dv.D.rf _]) _ _ _); with_reducible apply Dv.q_listC ?a1 ?_); (case a1 => top_raise0))
  | (((with_reducible show Dv.Gq (Dv.b1 Dv.sortedD _ [Dv.D.rf _]) _ _ _); with_reducible apply Dv.q_sortedC ?a1 ?_); (case a1 => top_raise0))
  | (((with_reducible show Dv.Gq (Dv.b1 Dv.sumD _ [Dv.D.rf _]) _ _ _); with_reducible apply Dv.q_sumC ?a1 ?_); (case a1 => top_raise0))
  | (((with_reducible show Dv.Gq (Dv.b1 Dv.allD _ [Dv.D.rf _]) _ _ _); with_reducible apply Dv.q_allC ?a1 ?_); (case a1 => top_raise0))
  | (((with_reducible show Dv.Gq (Dv.b1 Dv.lenD _ [_]) _ _ _); with_reducible apply Dv.q_len ?a1 ?_); (case a1 => first | with_unfolding_all rfl | top_name))
  | (((with_reducible show Dv.Gq (Dv.b1 Dv.listD _ [_]) _ _ _); with_reducible apply Dv.q_list ?a1 ?_); (case a1 => first | with_unfolding_all rfl | top_name))
  | (((with_reducible show Dv.Gq (Dv.b1 Dv.allD _ [_]) _ _ _); with_reducible apply Dv.q_all ?a1 ?_); (case a1 => first | with_unfolding_all rfl | top_name))
  | (((with_reducible show Dv.Gq (Dv.b1 Dv.sortedD _ [_]) _ _ _); with_reducible apply Dv.q_sorted ?a1 ?_); (case a1 => first | with_unfolding_all rfl | top_name))
  | (((with_reducible show Dv.Gq (Dv.b1 Dv.sumD _ [_]) _ _ _); with_reducible apply Dv.q_sum ?a1 ?_); (case a1 => first | with_unfolding_all rfl | top_name))
  | (((with_reducible show Dv.Gq (Dv.pAdd _ (Dv.D.lst _) (Dv.D.lst _)) _ _ _); with_reducible apply Dv.q_addL ?a1 ?_); (case a1 => top_caughtB))
  | (((with_reducible show Dv.Gq (Dv.pIx _ _ (Dv.D.int _)) _ _ _); with_reducible apply Dv.q_ix ?a1 ?a2 ?_); (case a1 => first | with_unfolding_all rfl | top_name); (case a2 => first | with_unfolding_all rfl | top_raise)))
local macro_rules | `(tactic| top_caughtB) => `(tactic| first | with_reducible assumption | omega | decide +kernel | (simp; done) | (simp; omega))
local macro_rules | `(tactic| top_raise0) => `(tactic| first
  | exact Dv.GetC.eq
  | with_reducible assumption
  | exact Dv.ce_one
  | (((with_reducible show (List.set _ _ _)[_]? = Option.some _); with_reducible apply Dv.ce_set ?a1); (case a1 => top_caughtB))
  | (((with_reducible show (_ ++ _)[_]? = Option.some _); with_reducible apply Dv.ce_app ?_); top_raise0)
  | (((with_reducible show (List.set _ _ _)[_]? = Option.some _); with_reducible apply Dv.ce_ne ?a1 ?_); (case a1 => top_caughtB); top_raise0))
local macro_rules | `(tactic| top_name) => `(tactic| with_reducible assumption)
local macro_rules | `(tactic| top_raise) => `(tactic| with_reducible assumption)
local macro_rules | `(tactic| top_raiseB0) => `(tactic| first
  | ((with_reducible show Dv.Gf (Dv.FR.ok _ _) (Dv.S.mk _ _ _) _ _ _ _); with_reducible apply Dv.gf_ok ?_)
  | ((with_reducible show Dv.Gf (Dv.FR.nl _ _) (Dv.S.mk _ _ _) _ _ _ _); with_reducible apply Dv.gf_nl ?_)
  | ((with_reducible show Dv.Gf (Dv.FR.ni _ _ _) (Dv.S.mk _ _ _) _ _ _ _); with_reducible apply Dv.gf_ni ?_)
  | ((with_reducible show Dv.Gf (Dv.FR.er _ _) (Dv.S.mk _ _ _) _ _ _ _); with_reducible apply Dv.gf_er ?_))
local macro_rules | `(tactic| top_reprB) => `(tactic| first
  | ((with_reducible show Dv.Br _ _ _); with_reducible apply Dv.br_t rfl ?_)
  | ((with_reducible show Dv.Br _ _ _); with_reducible apply Dv.br_f rfl ?_)
  | ((with_reducible show Dv.Br (!_) _ _); with_reducible apply Dv.br_not ?_)
  | (((with_reducible show Dv.Br _ _ _); with_reducible apply Dv.br_t ?a1 ?_); (case a1 => with_reducible assumption))
  | (((with_reducible show Dv.Br _ _ _); with_reducible apply Dv.br_f ?a1 ?_); (case a1 => with_reducible assumption))
  | (((with_reducible show Dv.Br (Decidable.decide _) _ _); with_reducible apply Dv.br_dt ?a1 ?_); (case a1 => first | with_reducible assumption | omega | rfl))
  | (((with_reducible show Dv.Br (Decidable.decide _) _ _); with_reducible apply Dv.br_df ?a1 ?_); (case a1 => first | with_reducible assumption | omega | decide)))
local macro_rules | `(tactic| top_strB) => `(tactic| first
  | ((with_reducible show ∃ b, Dv.D.bl _ = Dv.D.bl b ∧ _); with_reducible apply Dv.x_bl ?_)
  | ((with_reducible show ∃ b, Dv.D.int _ = Dv.D.int b ∧ _); with_reducible apply Dv.x_int ?_)
  | (((with_reducible show List.length _ = _ ∧ _); with_reducible apply Dv.x_len ?a1 ?_); (case a1 => with_unfolding_all rfl))
  | (((with_reducible show List.length _ + 1 = _ ∧ _); with_reducible apply Dv.x_len1 ?a1 ?_); (case a1 => with_unfolding_all rfl))
  | (((with_reducible show _ ≤ _ ∧ _); with_reducible apply Dv.x_le ?a1 ?_); (case a1 => first | (simp; done) | top_caughtB))
  | ((with_reducible show _ = _ ∧ _); with_reducible apply Dv.x_n ?_)
  | ((with_reducible show ∃ gs, Dv.instF _ _ (Dv.D.obj _ _) = Option.some gs ∧ _); with_reducible apply Dv.x_obj' ?_)
  | ((with_reducible show ∃ gs, Dv.instF _ _ (Dv.D.obj _ _) = Option.some gs ∧ _); with_reducible apply Dv.x_obj ?_)
  | ((with_reducible show ∃ gs gs', Dv.instF _ _ (Dv.D.obj _ _) = Option.some gs ∧ Dv.instF _ _ (Dv.D.obj _ _) = Option.some gs' ∧ _); with_reducible apply Dv.x_obj2' ?_)
  | ((with_reducible show ∃ a' b', [_, _] = [a', b'] ∧ _); with_reducible apply Dv.x_ls2 ?_)
  | ((with_reducible show ∃ a' b' c', [_, _, _] = [a', b', c'] ∧ _); with_reducible apply Dv.x_ls3 ?_)
  | ((with_reducible show Option.isSome (Dv.instF _ _ (Dv.D.obj _ _)) = Bool.true ∧ _); with_reducible apply Dv.x_isS ?_)
  | (((with_reducible show Option.isNone (List.lookup _ _) = Bool.true ∧ _); with_reducible apply Dv.x_lk ?a1 ?_); (case a1 => with_unfolding_all rfl))
  | ((with_reducible show ∃ ys, (Dv.D.lst _ = Dv.D.lst ys ∨ Dv.D.lst _ = Dv.D.ro ys) ∧ _); with_reducible apply Dv.x_lst ?_)
  | ((with_reducible show ∃ ys, (Dv.D.ro _ = Dv.D.lst ys ∨ Dv.D.ro _ = Dv.D.ro ys) ∧ _); with_reducible apply Dv.x_ro ?_)
  | ((with_reducible show ∃ ys, Dv.D.tup _ = Dv.D.tup ys ∧ _); with_reducible apply Dv.x_tup ?_)
  | ((with_reducible show ∃ ys, Dv.look _ (Dv.D.lst _) = Option.some ys ∧ _); with_reducible apply Dv.x_lookL ?_)
  | ((with_reducible show ∃ ys, Dv.look _ (Dv.D.ro _) = Option.some ys ∧ _); with_reducible apply Dv.x_lookR ?_)
  | (((with_reducible show ∃ ys, Dv.look _ (Dv.D.rf _) = Option.some ys ∧ _); with_reducible apply Dv.x_lookC ?a1 ?_); (case a1 => top_raise0))
  | ((with_reducible show Dv.isL _ (Dv.D.lst _) = Bool.true ∧ _); with_reducible apply Dv.x_lkL ?_)
  | ((with_reducible show Dv.isL _ (Dv.D.ro _) = Bool.true ∧ _); with_reducible apply Dv.x_lkR ?_)
  | (((with_reducible show Dv.isL _ _ = Bool.true ∧ _); with_reducible apply Dv.x_lkm (Dv.isL_rf ?a1) ?_); (case a1 => top_raise0))
  | (((with_reducible show Dv.isDic _ (Dv.D.rf _) = Bool.true ∧ _); with_reducible apply Dv.x_dic ?a1 ?_); (case a1 => top_raise0))
  | (((with_reducible show ∃ gs, Dv.instF _ _ (Dv.D.rf _) = Option.some gs ∧ _); with_reducible apply Dv.x_ins ?a1 ?_); (case a1 => top_raise0))
  | (((with_reducible show Option.isSome (Dv.instF _ _ (Dv.D.rf _)) = Bool.true ∧ _); with_reducible apply Dv.x_isSC ?a1 ?_); (case a1 => top_raise0))
  | (((with_reducible show ∃ _ _, Dv.D.rf _ = Dv.D.rf _ ∧ _); with_reducible apply Dv.x_setF ?a1 ?a2 ?_); (case a1 => top_raise0); (case a2 => (simp; done)))
  | (((with_reducible show ∃ _ _, Dv.D.rf _ = Dv.D.rf _ ∧ _); with_reducible apply Dv.x_set ?a1 ?_); (case a1 => top_raise0))
  | (((with_reducible show ∃ _ _ _ _, Dv.D.rf _ = Dv.D.rf _ ∧ _); with_reducible apply Dv.x_setI ?a1 ?a2 ?_); (case a1 => top_raise0); (case a2 => with_unfolding_all rfl))
  | (((with_reducible show ∃ _ _ _, Dv.D.rf _ = Dv.D.rf _ ∧ _); with_reducible apply Dv.x_put ?a1 ?a2 ?_); (case a1 => top_raise0); (case a2 => with_unfolding_all rfl))
  | ((with_reducible show ∃ ms, Dv.look _ (Dv.lI _) = Option.some (List.map Dv.D.int ms) ∧ _); with_reducible apply Dv.x_ints ?_)
  | (((with_reducible show ∃ ms, Dv.look _ (Dv.D.rf _) = Option.some (List.map Dv.D.int ms) ∧ _); with_reducible apply Dv.x_intsC ?a1 ?_); (case a1 => top_raise0))
  | ((with_reducible show ∃ a b, Dv.D.int _ = Dv.D.int a ∧ Dv.D.int _ = Dv.D.int b ∧ _); with_reducible apply Dv.x_int2 ?_)
  | (((with_reducible show _ < _ ∧ _); with_reducible apply Dv.x_lt ?a1 ?_); (case a1 => top_caughtB))
  | (((with_reducible show _ ≤ _ ∧ _); with_reducible apply Dv.x_leI ?a1 ?_); (case a1 => top_caughtB))
  | (((with_reducible show _ < _ ∧ _); with_reducible apply Dv.x_ltI ?a1 ?_); (case a1 => top_caughtB))
  | (((with_reducible show ∃ xs, Dv.rng1 [Dv.D.int _] = Option.some xs ∧ _); with_reducible apply Dv.i_rng1' ?a1 ?_); (case a1 => top_caughtB))
  | (((with_reducible show ∃ xs, Dv.rng2 [Dv.D.int _, Dv.D.int _] = Option.some xs ∧ _); with_reducible apply Dv.i_rng2' ?a1 ?a2 ?_); (case a1 => top_caughtB); (case a2 => top_caughtB))
  | ((with_reducible show ∃ ys, Dv.enumK [Dv.D.lst _] = Option.some ys ∧ _); with_reducible apply Dv.i_enum ?_)
  | ((with_reducible show ∃ xs, Dv.zipU [Dv.D.lst _, Dv.D.lst _] = Option.some xs ∧ _); with_reducible apply Dv.i_zipU ?_)
  | (((with_reducible show ∃ xs, Dv.zipK [Dv.D.lst _, Dv.D.lst _] = Option.some xs ∧ _); with_reducible apply Dv.i_zipK' ?a1 ?_); (case a1 => top_caughtB))
  | (((with_reducible show Dv.PikK _ _ _ _ _ (Dv.S.mk _ _ _) _ _ _ _ _); with_reducible apply Dv.pikk ?a1 ?a2 ?_); (case a1 => with_unfolding_all rfl); (case a2 => with_unfolding_all rfl)))
local macro_rules | `(tactic| tb_start) => `(tactic| first
  | ((with_reducible show Dv.Ge _ _ _ _); refine Dv.e_of_n ?_)
  | ((with_reducible show Dv.Gn _ _ _ _ _ _); top_argsB)
  | ((with_reducible show Dv.Gs _ _ _ _ _ _ _); top_args)
  | ((with_reducible show Dv.Gq _ _ _ _); top_caught)
  | ((with_reducible show Dv.Ga (Dv.aCons _ _) _ _ _); with_reducible apply Dv.a_cons ?_)
  | ((with_reducible show Dv.Ga Dv.aNil _ _ _); with_reducible apply Dv.a_nil ?_)
  | ((with_reducible show Dv.At (Dv.S.mk _ _ _) _); with_reducible apply Dv.at_lit ?_)
  | ((with_reducible show Dv.SetK _ _ (Dv.S.mk _ _ _) _); with_reducible apply Dv.setk ?_)
  | ((with_reducible show Dv.CeK _ (Dv.S.mk _ _ _) _); with_reducible apply Dv.cek ?_)
  | ((with_reducible show Dv.PutK _ _ _ _ _ _ _); with_reducible apply Dv.putk ?_)
  | ((with_reducible show Dv.Gb (Dv.bTru _) _ _ _); with_reducible apply Dv.g_tru ?_)
  | (((with_reducible show Dv.GetK (Dv.D.rf _) _ _ (Dv.S.mk _ _ _) _); with_reducible apply Dv.getk ?a1 ?a2 ?_); (case a1 => top_raise0); (case a2 => with_unfolding_all rfl))
  | (((with_reducible show Dv.Gm (Dv.mApp _ (Dv.D.rf _) [_]) (Dv.S.mk _ _ _) _ _); with_reducible apply Dv.g_app' ?a1 ?a2 ?_); (case a1 => top_raise0); (case a2 => top_caughtB))
  | (((with_reducible show Dv.Gm (Dv.mCnt _ _ [Dv.D.int _]) _ _ _); with_reducible apply Dv.m_cnt ?a1 ?_); (case a1 => with_unfolding_all rfl))
  | (((with_reducible show Dv.Gm (Dv.mExt _ (Dv.D.rf _) [Dv.D.lst _]) (Dv.S.mk _ _ _) _ _); with_reducible apply Dv.g_ext' ?a1 ?a2 ?_); (case a1 => top_raise0); (case a2 => top_caughtB))
  | ((with_reducible show Dv.Br _ _ _); top_reprB)
  | ((with_reducible show Dv.Gf _ _ _ _ _ _); top_raiseB0)
  | ((with_reducible show Dv.Gb (Dv.bTest _) _ _ _); with_reducible apply Dv.b_test ?_)
  | ((with_reducible show Dv.Gb (Dv.bNot _) _ _ _); with_reducible apply Dv.b_not ?_)
  | ((with_reducible show Dv.Gb (Dv.bAnd _ _) _ _ _); with_reducible apply Dv.b_and ?_)
  | ((with_reducible show Dv.Gb (Dv.bOr _ _) _ _ _); with_reducible apply Dv.b_or ?_)
  | ((with_reducible show Dv.Gb Dv.bYes _ _ _); with_reducible apply Dv.b_yes ?_)
  | (((with_reducible show Dv.Gi (Dv.iLk _ _) (Dv.S.mk _ _ _) _ _); with_reducible apply Dv.i_lk ?a1 ?_); (case a1 => top_raise0))
  | (((with_reducible show Dv.UnlK _ _ (Dv.S.mk _ _ _)); with_reducible apply Dv.unlk ?a1 ?_); (case a1 => top_raise0))
  | ((with_reducible show Dv.Gi (Dv.iA _ _) _ _ _); with_reducible apply Dv.i_A ?_)
  | ((with_reducible show Dv.Gi (Dv.iL _) _ _ _); with_reducible apply Dv.i_L ?_)
  | ((with_reducible show Dv.Gi (Dv.iT _) _ _ _); with_reducible apply Dv.i_T ?_)
  | ((with_reducible show Dv.Gp Dv.ptNone _ _ _); with_reducible apply Dv.p_none' ?_)
  | ((with_reducible show Dv.Gp (Dv.ptSome _) _ _ _); with_reducible apply Dv.p_some' ?_)
  | ((with_reducible show Dv.TgK (Dv.tgN _) _ _ _); with_reducible apply Dv.tg_name ?_)
  | ((with_reducible show Dv.TgK (Dv.tgT [_, _]) (Dv.D.tup [_, _]) _ _); with_reducible apply Dv.tg_pair ?_)
  | ((with_reducible show Dv.TgK (Dv.tgT [_, _, _]) (Dv.D.tup [_, _, _]) _ _); with_reducible apply Dv.tg_three ?_)
  | ((with_reducible show Dv.WrK _ _ (Dv.S.mk _ _ _) _); with_reducible apply Dv.wrkF ?_)
  | (((with_reducible show Dv.Gc (Dv.Cla.mk _ Option.none _ :: _) (Dv.Xc.mk _ _) _ _ _ _ _ _); with_reducible apply Dv.gc_t ?a1 ?_); (case a1 => with_unfolding_all rfl))
  | (((with_reducible show Dv.Gc (Dv.Cla.mk _ (Option.some _) _ :: _) (Dv.Xc.mk _ _) _ _ _ _ _ _); with_reducible apply Dv.gc_ti ?a1 ?_); (case a1 => with_unfolding_all rfl))
  | (((with_reducible show Dv.Gc (Dv.Cla.mk _ _ _ :: _) (Dv.Xc.mk _ _) _ _ _ _ _ _); with_reducible apply Dv.gc_f ?a1 ?_); (case a1 => with_unfolding_all rfl))
  | ((with_reducible show Dv.Gc [] _ _ _ _ _ _ _); with_reducible apply Dv.gc_nil ?_)
  | ((with_reducible show Dv.CutK _ _ (Dv.S.mk _ _ _)); with_reducible apply Dv.cutk ?_)
  | (((with_reducible show Dv.Gm (Dv.mPop0 _ (Dv.D.rf _) [Dv.D.int 0]) (Dv.S.mk _ _ _) _ _); with_reducible apply Dv.g_pop0 ?a1 ?_); (case a1 => top_raise0))
  | (((with_reducible show Dv.Gm (Dv.mRev _ (Dv.D.rf _) []) (Dv.S.mk _ _ _) _ _); with_reducible apply Dv.g_rev ?a1 ?_); (case a1 => top_raise0))
  | (((with_reducible show Dv.Gm (Dv.mClr _ (Dv.D.rf _) []) (Dv.S.mk _ _ _) _ _); with_reducible apply Dv.g_clr ?a1 ?_); (case a1 => top_raise0))
  | (((with_reducible show Dv.Ret _ _ (Dv.R.ok _ (Dv.S.mk _ _ _))); with_reducible apply Dv.ret_ok Dv.tail_id ?a1 ?_); (case a1 => top_raiseB))
  | (((with_reducible show Dv.Ret _ _ (Dv.R.nl _ (Dv.S.mk _ _ _))); with_reducible apply Dv.ret_nl Dv.tail_id ?a1 ?_); (case a1 => top_raiseB))
  | (((with_reducible show Dv.Ret _ _ (Dv.R.ni _ _ (Dv.S.mk _ _ _))); with_reducible apply Dv.ret_ni Dv.tail_id ?a1 ?_); (case a1 => top_raiseB))
  | (((with_reducible show Dv.Ret _ _ (Dv.R.ok _ (Dv.S.mk _ _ _))); with_reducible apply Dv.ret_ok Dv.tail_own ?a1 ?_); (case a1 => top_raiseB))
  | (((with_reducible show Dv.Ret _ _ (Dv.R.nl _ (Dv.S.mk _ _ _))); with_reducible apply Dv.ret_nl Dv.tail_own ?a1 ?_); (case a1 => top_raiseB))
  | (((with_reducible show Dv.Ret _ _ (Dv.R.ok _ (Dv.S.mk _ _ _))); with_reducible apply Dv.ret_ok (Dv.tail_set ?a1) ?a2 ?_); (case a1 => top_raiseB); (case a2 => top_raiseB))
  | (((with_reducible show Dv.Ret _ _ (Dv.R.nl _ (Dv.S.mk _ _ _))); with_reducible apply Dv.ret_nl (Dv.tail_set ?a1) ?a2 ?_); (case a1 => top_raiseB); (case a2 => top_raiseB))
  | (((with_reducible show Dv.Ret _ _ (Dv.R.ok _ (Dv.S.mk _ _ _))); with_reducible apply Dv.ret_ok (Dv.tail_set_own ?a1) ?a2 ?_); (case a1 => top_raiseB); (case a2 => top_raiseB))
  | (((with_reducible show Dv.Ret _ _ (Dv.R.nl _ (Dv.S.mk _ _ _))); with_reducible apply Dv.ret_nl (Dv.tail_set_own ?a1) ?a2 ?_); (case a1 => top_raiseB); (case a2 => top_raiseB))
  | ((with_reducible show Dv.Ret _ _ (Dv.R.er (Dv.Xc.mk _ []) (Dv.S.mk _ _ _))); with_reducible apply Dv.ret_er Dv.tail_id ?_)
  | ((with_reducible show Dv.Ret _ _ (Dv.R.er (Dv.Xc.mk _ []) (Dv.S.mk _ _ _))); with_reducible apply Dv.ret_er Dv.tail_own ?_)
  | top_strB)
local macro_rules | `(tactic| tb_rel) => `(tactic| repeat tb_start)
local macro_rules | `(tactic| wp_walk using $ts,*) => do
  let ts := ts.getElems
  `(tactic| repeat (first | tb_start | ((with_reducible show Dv.Gf _ _ _ _ _ _); first $[| with_reducible apply Dv.gf_eq $ts ?_]* $[| with_reducible apply Dv.gf_use $ts ?_]*) | intro _))
set_option maxRecDepth 100000
set_option maxHeartbeats 4000000
namespace Pg
open PySem PySem.Spec PyProof.Rows L2 Dv
theorem is_integer_run (ce : List Cell) (i : Int) : m_is_integer [.int i] ce = .ok (.bl true) ce := by
  refine run_eq ?_
  unfold D_is_integer
  tb_rel
  rfl
theorem is_number_run (ce : List Cell) (i : Int) : m_is_number [.int i] ce = .ok (.bl (decide (1 ≤ i))) ce := by
  refine run_eq ?_
  unfold D_is_number
  wp_walk using is_integer_run _ _
  rfl
theorem check_from_run (ce : List Cell) {i l : Int} (h : l ≤ i) : m_check_from [.int i, .int l] ce = .ok .non ce := by
  refine run_eq ?_
  unfold D_check_from
  wp_walk using is_integer_run _ _
  rfl
theorem check_number_run (ce : List Cell) {i : Int} (h : 1 ≤ i) : m_check_number [.int i] ce = .ok .non ce := by
  refine run_eq ?_
  unfold D_check_number
  wp_walk using check_from_run _ h
  rfl
theorem check_between_run (ce : List Cell) {i l u : Int} (h : l ≤ i) (h2 : i ≤ u) : m_check_between [.int i, .int l, .int u] ce = .ok .non ce := by
  refine run_eq ?_
  unfold D_check_between
  wp_walk using check_from_run _ h
  rfl
theorem is_divisor_run (ce : List Cell) (i : Int) : m_is_divisor [.int i] ce = .ok (.bl (decide (1 ≤ i) && decide (i < 100000000000000000000))) ce := by
  refine run_eq ?_
  unfold D_is_divisor
  wp_walk using is_number_run _ _
  by_cases h : 1 ≤ i
  · refine br_dt h ?_
    tb_rel
    rw [decide_eq_true h, Bool.true_and]
  · refine br_df h ?_
    tb_rel
    rw [decide_eq_false h, Bool.false_and]
theorem all_map {α : Type} (l : List α) (p : α → Bool) : (l.map p).all id = l.all p := by rw [List.all_map] <;> rfl
theorem cut1 (xs : List D) : cutD xs (some 1) none = xs.drop 1 := by
  cases xs with
  | nil => rfl
  | cons a r =>
    show ((a :: r).drop (HT.sIx (a :: r).length 0 (some 1))).take (HT.sIx (a :: r).length (a :: r).length none - HT.sIx (a :: r).length 0 (some 1)) = _
    have e1 : HT.sIx (a :: r).length 0 (some 1) = 1 := by simp [HT.sIx]
    have e2 : HT.sIx (a :: r).length (a :: r).length none = (a :: r).length := rfl
    rw [e1, e2]
    simp
theorem are_divisors_run (ce : List Cell) (ns : List Int) (hl : ns.length ≤ 100000) : m_are_divisors [lI ns] ce = .ok (.bl (good ns)) ce := by
  refine run_eq ?_
  unfold D_are_divisors
  tb_rel
  rw [List.length_map]
  by_cases h : ns.length ≤ 200
  · refine br_df (by omega) ?_
    tb_rel
    refine comp_intsA (fun n => .bl (decide (1 ≤ n) && decide (n < 100000000000000000000))) hl (fun n hn => ?_) ?_
    · wp_walk using is_divisor_run _ _
      exact ⟨rfl, rfl⟩
    tb_rel
    refine q_all (bs := ns.map fun n => (decide (1 ≤ n) && decide (n < 100000000000000000000))) (by rw [List.map_map] <;> rfl) ?_
    tb_rel
    rw [all_map]
    cases h1 : ns.all fun n => (decide (1 ≤ n) && decide (n < 100000000000000000000)) with
    | false =>
      refine br_f rfl ?_
      tb_rel
      unfold good
      rw [h1, Bool.and_false, Bool.false_and]
    | true =>
      refine br_t rfl ?_
      tb_rel
      have e : cutD (ns.map D.int) (some 1) none = (ns.drop 1).map D.int := by rw [cut1, List.map_drop]
      rw [e, pairs_ints]
      refine comp_famA (ns.zip (ns.drop 1)) (fun p => D.tup [.int p.1, .int p.2]) (fun p => .bl (decide (p.1 < p.2))) (by rw [List.length_zip]; omega) (fun p hp => ?_) ?_
      · tb_rel
        exact ⟨rfl, rfl⟩
      tb_rel
      refine q_all (bs := (ns.zip (ns.drop 1)).map fun p => decide (p.1 < p.2)) (by rw [List.map_map] <;> rfl) ?_
      tb_rel
      rw [all_map]
      unfold good
      rw [h1, decide_eq_true h, Bool.true_and, Bool.true_and]
  · refine br_dt (by omega) ?_
    tb_rel
    unfold good
    rw [decide_eq_false h, Bool.false_and, Bool.false_and]

theorem par_len (a : List Int) (n : Int) : decide ((((a.filter fun d => decide (n % d = 0)).map D.int).length : Int) % 2 = 1) = pr a n := by
  rw [List.length_map, ← par_pr] <;> rfl
theorem divided_run (ce : List Cell) {a : List Int} (n : Int) (hp : ∀ x ∈ a, 0 < x) (hl : a.length ≤ 100000) : m_divided_oddly [.int n, lI a] ce = .ok (.bl (pr a n)) ce := by
  refine run_eq ?_
  unfold D_divided_oddly
  tb_rel
  refine comp_ints (fun d => decide (n % d = 0)) .int hl (fun d hd => ?_) ?_
  · have := hp d hd
    tb_rel
    refine ⟨rfl, fun _ => ?_, fun _ => rfl⟩
    tb_rel
    exact ⟨rfl, rfl⟩
  tb_rel
  rw [par_len]
theorem nodup_inl {kv : List (Int × Bool)} (h : (kv.map (·.1)).Nodup) : (kv.map ((fun p => p.1) ∘ fun p : Int × Bool => ((Sum.inl p.1, D.bl p.2) : Key × D))).Nodup := by
  have e : kv.map ((fun p => p.1) ∘ fun p : Int × Bool => ((Sum.inl p.1, D.bl p.2) : Key × D)) = (kv.map (·.1)).map (fun n => (Sum.inl n : Key)) := by
    rw [List.map_map]
    rfl
  rw [e]
  exact List.Pairwise.map _ (fun a b hab z => hab (inl_inj.mp z)) h
theorem odd_run (ce : List Cell) (a : List Int) (hl : a.length < 100000) : m_odd_times [lI a] ce = .nl ((oddI a).map .int) ce := by
  refine run_eq ?_
  unfold D_odd_times
  tb_rel
  refine for_inv (fun i s => ∃ o, s = (⟨[some (lI a), some (.rf ce.length), o], ce ++ [.dic (dicB (odB (a.take i)))], ce.length⟩ : S)) ⟨none, rfl⟩ (fun j d s hj ⟨o, hs⟩ => ?_) fun s ⟨o, hs⟩ => ?_
  · subst hs
    rw [List.getElem?_map] at hj
    cases ha : a[j]? with
    | none =>
      rw [ha] at hj
      cases hj
    | some n =>
      rw [ha] at hj
      cases hj
      obtain ⟨nd, ln⟩ := odB_nodup_len a j
      have hj2 := (List.getElem?_eq_some_iff.mp ha).1
      tb_rel
      rw [val_dicB]
      have e : ((valB (odB (a.take j)) n).map D.bl).getD (.bl false) = .bl ((valB (odB (a.take j)) n).getD false) := by
        cases valB (odB (a.take j)) n <;> rfl
      rw [e]
      tb_rel
      refine x_lt (by unfold dicB; rw [List.length_map]; omega) ?_
      rw [put_dicB nd]
      refine wrk' set_one ⟨some (.int n), ?_⟩
      have et : a.take (j + 1) = a.take j ++ [n] := by
        rw [List.take_succ, ha] <;> rfl
      rw [et, odB_snoc]
  · subst hs
    rw [List.length_map, List.take_length]
    obtain ⟨nd, ln⟩ := odB_nodup_len a a.length
    rw [List.take_length] at nd ln
    tb_rel
    refine gr_keysT (v := ce.length) rfl (by show 2 < 3; decide) ce_one (trues_dicB _) (by unfold dicB; rw [List.length_map]; omega) (by
      unfold dicB
      rw [List.map_map]
      exact nodup_inl nd) ?_
    tb_rel
    rfl
theorem alone_run (ce : List Cell) (a b : List Int) (hl : a.length + b.length < 100000) : m_alone [lI a, lI b] ce = .nl ((oddI (a ++ b)).map .int) ce := by
  refine run_eq ?_
  unfold D_alone
  tb_rel
  rw [← List.map_append]
  wp_walk using odd_run _ _ (by rw [List.length_append]; omega)
  rfl
end Pg

set_option maxRecDepth 100000
set_option maxHeartbeats 4000000
namespace Pg
open PySem PySem.Spec PyProof.Rows L2 Dv
theorem common_run (ce : List Cell) (a b : List Int) (ha : slim a = true) (hb : slim b = true) (hl : a.length * b.length < 100000) : m_common [lI a, lI b] ce = .nl ((oddI (lcms a b)).map .int) ce := by
  refine run_eq ?_
  unfold D_common
  tb_rel
  refine comp2_ints (fun i j => .int (lcmI i j)) (by omega) (fun i hi => ⟨_, rfl, rfl, rfl, fun j hj => ?_⟩) ?_
  · have h1 := of_decide_eq_true (List.all_eq_true.mp ha i hi)
    have h2 := of_decide_eq_true (List.all_eq_true.mp hb j hj)
    show TgK _ _ ⟨[some (lI a), some (lI b), some (.int i), none], ce, ce.length⟩ _
    tb_rel
    exact ⟨rfl, rfl⟩
  have e : (a.map fun i => b.map fun j => D.int (lcmI i j)).flatten = (lcms a b).map D.int := by
    unfold lcms
    rw [List.map_flatten, List.map_map]
    congr 1
    refine List.map_congr_left fun i _ => ?_
    show b.map (fun j => D.int (lcmI i j)) = (b.map (lcmI i)).map D.int
    rw [List.map_map] <;> rfl
  rw [e]
  wp_walk using odd_run _ _ (by rw [lcms_len]; omega)
  rfl
theorem form_divisors_run (ce : List Cell) (a : List Int) : m_form_divisors [fo a] ce = .nl (a.map .int) ce := by
  refine run_eq ?_
  unfold D_form_divisors
  tb_rel
  rfl
theorem divisors_of_run (ce : List Cell) (a : List Int) : m_divisors_of [fo a] ce = .nl (a.map .int) ce := by
  refine run_eq ?_
  unfold D_divisors_of
  wp_walk using form_divisors_run _ _
  rfl
theorem form_init_run (ce : List Cell) {a : List Int} (h : good a = true) (hl : a.length ≤ 100000) : m_form_init [.rf ce.length, lI a] (ce ++ [.ins 0 []]) = .ok .non (ce ++ [.ins 0 [("_held", lI a)]]) := by
  refine run_eq ?_
  unfold D_form_init
  wp_walk using are_divisors_run _ _ hl
  have t := tail_set (ce := ce ++ [Cell.ins 0 []]) (sl := [some (D.rf ce.length), some (lI a)]) (n0 := (ce ++ [Cell.ins 0 []]).length) (j := ce.length) (c := Cell.ins 0 [("_held", lI a)]) (by simp)
  rw [set_one] at t
  exact ret_ok t rfl rfl
theorem mk_form {ce : List Cell} {a : List Int} (h : good a = true) : mkOf 0 m_form_init [lI a] ce = .ok [("_held", lI a)] := mkOf_eq (form_init_run ce h (by
  unfold good at h
  rw [Bool.and_eq_true, Bool.and_eq_true, decide_eq_true_iff] at h
  omega)) (by simp)
theorem form_with_run (ce : List Cell) (a : List Int) : m_form_with [lI a] ce = .ok (fo a) ce := by
  refine run_eq ?_
  unfold D_form_with
  tb_rel
  refine mkk (mk_form (a := []) rfl) ?_
  tb_rel
  rfl
theorem limited_run (ce : List Cell) {a : List Int} (h : a.length ≤ 200) : m_limited_form [lI a] ce = .ok (fo a) ce := by
  refine run_eq ?_
  unfold D_limited_form
  tb_rel
  rw [List.length_map]
  refine br_df (by omega) ?_
  wp_walk using form_with_run _ _
  rfl
theorem limited_er (ce : List Cell) {a : List Int} (h : 200 < a.length) : m_limited_form [lI a] ce = .er ⟨16, []⟩ ce := by
  refine run_eq ?_
  unfold D_limited_form
  tb_rel
  rw [List.length_map]
  refine br_dt (by omega) ?_
  tb_rel
  rfl
theorem form_call_run (ce : List Cell) {a : List Int} {n : Int} (hn : 1 ≤ n) (hp : ∀ x ∈ a, 0 < x) (hl : a.length ≤ 100000) : m_form_call [fo a, .int n] ce = .ok (.bl (pr a n)) ce := by
  refine run_eq ?_
  unfold D_form_call
  wp_walk using check_number_run _ hn, divided_run _ _ hp hl
  rfl
theorem form_len_run (ce : List Cell) (a : List Int) : m_form_len [fo a] ce = .ok (.int (a.length : Nat)) ce := by
  refine run_eq ?_
  unfold D_form_len
  tb_rel
  rw [List.length_map]
theorem form_eq_run (ce : List Cell) (a b : List Int) : m_form_eq [fo a, fo b] ce = .ok (.bl (decide (a = b))) ce := by
  refine run_eq ?_
  unfold D_form_eq
  tb_rel
  rfl
theorem form_xor_run (ce : List Cell) {a b : List Int} (h : a.length + b.length < 100000) (h2 : (oddI (a ++ b)).length ≤ 200) : m_form_xor [fo a, fo b] ce = .ok (fo (oddI (a ++ b))) ce := by
  refine run_eq ?_
  unfold D_form_xor
  wp_walk using divisors_of_run _ _, alone_run _ _ _ h, limited_run _ h2
  rfl
theorem form_and_run (ce : List Cell) {a b : List Int} (ha : slim a = true) (hb : slim b = true) (h : a.length * b.length < 100000) (h2 : (oddI (lcms a b)).length ≤ 200) : m_form_and [fo a, fo b] ce = .ok (fo (oddI (lcms a b))) ce := by
  refine run_eq ?_
  unfold D_form_and
  wp_walk using divisors_of_run _ _, common_run _ _ _ ha hb h, limited_run _ h2
  rfl
theorem form_or_run (ce : List Cell) {a b : List Int} (ha : slim a = true) (hb : slim b = true) (h : a.length * b.length < 40000) (h1 : a.length + b.length < 40000) (h2 : (oddI (oddI (a ++ b) ++ oddI (lcms a b))).length ≤ 200) : m_form_or [fo a, fo b] ce = .ok (fo (oddI (oddI (a ++ b) ++ oddI (lcms a b)))) ce := by
  have l1 := odd_len (a ++ b)
  have l2 := odd_len (lcms a b)
  rw [List.length_append] at l1
  rw [lcms_len] at l2
  refine run_eq ?_
  unfold D_form_or
  wp_walk using divisors_of_run _ _, common_run _ _ _ ha hb (by omega), alone_run _ a b (by omega), alone_run _ (oddI (a ++ b)) (oddI (lcms a b)) (by omega), limited_run _ h2
  rfl
theorem form_invert_run (ce : List Cell) {a : List Int} (h : a.length < 90000) (h2 : (oddI (a ++ [1])).length ≤ 200) : m_form_invert [fo a] ce = .ok (fo (oddI (a ++ [1]))) ce := by
  refine run_eq ?_
  unfold D_form_invert
  tb_rel
  refine gf_eq (alone_run _ a [1] (by simp; omega)) ?_
  wp_walk using limited_run _ h2
  rfl
theorem form_scaled_run (ce : List Cell) {a : List Int} {n : Int} (hn : 1 ≤ n) (hb : bits n < 9000) (hl : a.length < 100000) : m_form_scaled [fo a, .int n] ce = .ok (fo (oddI (a.map fun d => d / gcdI d n))) ce := by
  refine run_eq ?_
  unfold D_form_scaled
  wp_walk using check_number_run _ hn
  refine comp_intsA (fun d => .int (d / gcdI d n)) (by omega) (fun d hd => ?_) ?_
  · have h0 := gcdI_pos (i := d) hn
    have h1 := gcdI_bits (i := d) hn
    have h2 : bits (gcdI d n) < 9000 := by omega
    tb_rel
    exact ⟨rfl, rfl⟩
  have e : (a.map fun d => D.int (d / gcdI d n)) = (a.map fun d => d / gcdI d n).map D.int := by rw [List.map_map] <;> rfl
  rw [e]
  wp_walk using odd_run _ _ (by rw [List.length_map]; omega), form_with_run _ _
  rfl
theorem form_spread_run (ce : List Cell) {a : List Int} {n : Int} (hn : 1 ≤ n) (hb : ∀ d ∈ a, bits d + bits n < 900000) (hl : a.length ≤ 100000) : m_form_spread [fo a, .int n] ce = .ok (fo (a.map fun d => d * n)) ce := by
  refine run_eq ?_
  unfold D_form_spread
  wp_walk using check_number_run _ hn
  refine comp_intsA (fun d => .int (d * n)) (by omega) (fun d hd => ?_) ?_
  · have h2 := hb d hd
    tb_rel
    exact ⟨rfl, rfl⟩
  have e : (a.map fun d => D.int (d * n)) = (a.map fun d => d * n).map D.int := by rw [List.map_map] <;> rfl
  rw [e]
  wp_walk using form_with_run _ _
  rfl
end Pg

set_option maxRecDepth 100000
set_option maxHeartbeats 4000000
set_option exponentiation.threshold 600
namespace Pg
open PySem PySem.Spec PyProof.Rows L2 Dv
theorem keys_toK (w : Wt) : keysL (toK w) = w.map fun p => D.int p.1 := by
  unfold keysL toK
  rw [List.map_map] <;> rfl
theorem bits_nat {i : Int} {k : Nat} (h : i.natAbs < 2 ^ k) (hk : 0 < k) : bits i < k := by
  unfold bits
  by_cases h0 : i.natAbs = 0
  · rw [h0]
    exact hk
  · exact (Nat.log2_lt h0).mpr h
theorem div_le_nat {N m : Int} (hN : 0 ≤ N) (hm : 0 < m) : 0 ≤ N / m ∧ N / m ≤ N := ⟨Int.ediv_nonneg hN (by omega), Int.ediv_le_self m hN⟩
theorem counted_run {ce : List Cell} {j : Nat} {w : Wt} {N : Int} (e : ce[j]? = some (.dic (toK w))) (nd : (keysW w).Nodup) (hl : w.length ≤ 50000) (hk : KeB 4000 w) (ha : absW w < 2 ^ 1000) (hN : 0 ≤ N) (hb : bits N < 400000) : m_counted [.rf j, .int N] ce = .ok (.int (cntW w N)) ce := by
  have hj : j < ce.length := ce_lt e
  refine run_eq ?_
  unfold D_counted
  tb_rel
  rw [keys_toK]
  refine comp_famA w (fun p => D.int p.1) (fun p => .int (p.2 * (N / p.1))) (by omega) (fun p hp => ?_) ?_
  · have k1 := hk p.1 (List.mem_map_of_mem hp)
    have k2 := absW_mem hp
    tb_rel
    refine subka (.inr (ce_set (ce_lt e))) rfl (by rw [val_toK, mem_getW nd hp] <;> rfl) ?_
    have b1 : bits p.1 < 9000 := Nat.lt_of_le_of_lt (bits_le (by omega) k1.2) (by decide)
    have d1 := div_le_nat hN k1.1
    have b2 : bits p.2 + bits (N / p.1) < 900000 := by
      have b3 : bits p.2 < 1000 := bits_nat (by omega) (by decide)
      have b4 : bits (N / p.1) ≤ bits N := log2_mono (by omega)
      omega
    tb_rel
    exact ⟨rfl, rfl⟩
  · refine unlk (ce_set hj) (wrk' (by rw [set_set, set_id e]) ?_)
    have el : w.map (fun p => D.int (p.2 * (N / p.1))) = (w.map fun p => p.2 * (N / p.1)).map D.int := by rw [List.map_map] <;> rfl
    rw [el]
    tb_rel
    rfl
theorem form_len0 (ce : List Cell) (a : List Int) : m_form_len [fo a] ce = .ok (.int (a.length : Nat)) ce := form_len_run ce a
/-- the weights of a form of up to 12 divisors below 2 ^ 300 -/
theorem weights_of_run (ce : List Cell) {a : List Int} (hl : a.length ≤ 12) (ha : ∀ d ∈ a, 0 < d ∧ d < 2 ^ 300) :
    Fs (m_weights_of [fo a] ce) fun Q => ∀ C j, (∃ own, C = ce ++ own) → ce.length ≤ j → C[j]? = some (.dic (toK (weights a))) → Q (.ok (.rf j) C) := by
  refine run_fs fun Q k => ?_
  unfold D_weights_of
  wp_walk using form_len_run _ _, form_divisors_run _ _
  refine for_inv (fun i s => ∃ C j o2 o3 o4 o5 o6, s = (⟨[some (fo a), some (.rf j), o2, o3, o4, o5, o6], C, ce.length⟩ : S) ∧ (∃ own, C = ce ++ own) ∧ ce.length ≤ j ∧ C[j]? = some (.dic (toK (weights (a.take i)))))
    ⟨_, _, _, _, _, _, _, rfl, ⟨_, rfl⟩, Nat.le_refl _, cell_last⟩ ?_ ?_
  · rintro i d s hd ⟨C, j, o2, o3, o4, o5, o6, rfl, hown, hj, e⟩
    rw [List.getElem?_map] at hd
    cases hx : a[i]? with
    | none =>
      rw [hx] at hd
      cases hd
    | some x =>
      rw [hx] at hd
      cases hd
      have hi := (List.getElem?_eq_some_iff.mp hx).1
      have et : a.take (i + 1) = a.take i ++ [x] := by
        rw [List.take_succ, hx] <;> rfl
      rw [et, weights_snoc]
      have hx2 := ha x (List.mem_of_getElem? hx)
      have at2 : ∀ d ∈ a.take i, 0 < d ∧ d < 2 ^ 300 := fun d hd => ha d (List.mem_of_mem_take hd)
      have lt : (a.take i).length ≤ 11 := by rw [List.length_take]; omega
      have w1 := (weights_ok 0 (a.take i)).2
      have w2 := weights_len (a.take i)
      have w3 := weights_keb (u := 300) (a.take i) at2
      have w4 := weights_abs (a.take i)
      have w2 : (weights (a.take i)).length ≤ 2 ^ 11 := by
        have : 2 ^ (a.take i).length ≤ 2 ^ 11 := Nat.pow_le_pow_right (by decide) lt
        omega
      have w3 : KeB 3300 (weights (a.take i)) := keb_up w3 (by omega)
      have w4 : absW (weights (a.take i)) ≤ 4 ^ 11 := by
        have : 4 ^ (a.take i).length ≤ 4 ^ 11 := Nat.pow_le_pow_right (by decide) lt
        omega
      generalize weights (a.take i) = w at *
      have hj2 : j < C.length := ce_lt e
      tb_rel
      rw [keys_toK]
      refine dcomp_map w (fun p => D.int p.1) (fun p => Sum.inl p.1) (fun p => D.int p.2) ?_ (by omega) (fun p hp => ?_) ?_
      · have eq : w.map (fun p => (Sum.inl p.1 : Key)) = (keysW w).map Sum.inl := by rw [List.map_map] <;> rfl
        rw [eq]
        exact List.Pairwise.map _ (fun a b hab z => hab (inl_inj.mp z)) w1
      · tb_rel
        refine ⟨rfl, ?_⟩
        tb_rel
        exact subka (.inr (ce_set hj2)) rfl (by rw [val_toK, mem_getW w1 hp] <;> rfl) ⟨rfl, rfl⟩
      · have eq : (w.map fun p => ((Sum.inl p.1 : Key), D.int p.2)) = toK w := rfl
        rw [eq, List.length_set]
        tb_rel
        have ec : (C.set j (.lk (toK w)) ++ [Cell.dic (toK w)]).set j (.dic (toK w)) = C ++ [.dic (toK w)] := by
          rw [List.set_append_left j _ (show j < (C.set j (.lk (toK w))).length by rw [List.length_set]; exact hj2), set_set, set_id e]
        rw [ec]
        tb_rel
        have ev : ∀ (v : Wt) (y : Int), (valKD (toK v) (Sum.inl y)).getD (D.int 0) = .int ((getW v y).getD 0) := fun v y => by
          rw [val_toK]
          cases getW v y <;> rfl
        rw [ev]
        tb_rel
        refine x_lt (by unfold toK; rw [List.length_map]; omega) ?_
        rw [put_toK]
        refine wrk' set_one ?_
        have ea : setW w x ((getW w x).getD 0 + 1) = addW w x 1 := rfl
        rw [ea]
        tb_rel
        refine g_lockS (ce_app e) ?_
        refine wrk' (ce' := C.set j (.lk (toK w)) ++ [.dic (toK (addW w x 1))]) (set_app hj2) ?_
        tb_rel
        have il : itemsL (toK w) = w.map fun p => D.tup [.int p.1, .int p.2] := by
          unfold itemsL toK
          rw [List.map_map] <;> rfl
        rw [il]
        refine for_inv (fun t s => ∃ q4 q5 q6, s = (⟨[some (fo a), some (.rf j), some (.int x), some (.rf C.length), q4, q5, q6], C.set j (.lk (toK w)) ++ [.dic (toK ((w.take t).foldl (fun j p => addW j (lcmI p.1 x) (0 - 2 * p.2)) (addW w x 1)))], ce.length⟩ : S)) ⟨_, _, _, rfl⟩ ?_ ?_
        · rintro t d s hd ⟨q4, q5, q6, rfl⟩
          rw [List.getElem?_map] at hd
          cases hp : w[t]? with
          | none =>
            rw [hp] at hd
            cases hd
          | some p =>
            rw [hp] at hd
            cases hd
            have hpm := List.mem_of_getElem? hp
            have k1 := w3 p.1 (List.mem_map_of_mem hpm)
            have k2 := absW_mem hpm
            have jl := fold_len (d := x) (w.take t) (addW w x 1)
            have jl2 := addW_len (w := w) (d := x) (c := 1)
            have jt : (w.take t).length ≤ w.length := by rw [List.length_take]; omega
            have e2 : (w.take (t + 1)).foldl (fun j p => addW j (lcmI p.1 x) (0 - 2 * p.2)) (addW w x 1) = addW ((w.take t).foldl (fun j p => addW j (lcmI p.1 x) (0 - 2 * p.2)) (addW w x 1)) (lcmI p.1 x) (0 - 2 * p.2) := by
              rw [List.take_succ, hp, Option.toList_some, List.foldl_append] <;> rfl
            rw [e2]
            generalize (w.take t).foldl (fun j p => addW j (lcmI p.1 x) (0 - 2 * p.2)) (addW w x 1) = J at *
            have c1 : bits p.1 < 6000 := Nat.lt_of_le_of_lt (bits_le (by omega) k1.2) (by decide)
            have c2 : bits x < 6000 := Nat.lt_of_le_of_lt (bits_le (by omega) hx2.2) (by decide)
            have c3 : bits 2 + bits p.2 < 900000 := by
              have c4 : bits p.2 < 100 := bits_nat (by omega) (by decide)
              have c5 : bits 2 < 10 := by decide +kernel
              omega
            have lc : ((Nat.lcm p.1.natAbs x.natAbs : Nat) : Int) = lcmI p.1 x := rfl
            have cl : (C.set j (.lk (toK w))).length = C.length := len_set
            have cj : (C.set j (.lk (toK w)) ++ [Cell.dic (toK J)])[C.length]? = some (.dic (toK J)) := ce_one' cl
            tb_rel
            rw [ev]
            tb_rel
            refine x_lt (by unfold toK; rw [List.length_map]; omega) ?_
            rw [put_toK]
            refine wrk' (ce' := C.set j (.lk (toK w)) ++ [.dic (toK (addW J (lcmI p.1 x) (0 - 2 * p.2)))]) ?_ ⟨_, _, _, rfl⟩
            rw [set_one' cl]
            unfold addW
            rw [show (getW J (lcmI p.1 x)).getD 0 - 2 * p.2 = (getW J (lcmI p.1 x)).getD 0 + (0 - 2 * p.2) by omega]
        · rintro s ⟨q4, q5, q6, rfl⟩
          rw [List.length_map, List.take_length]
          have es : w.foldl (fun j p => addW j (lcmI p.1 x) (0 - 2 * p.2)) (addW w x 1) = stepW w x := rfl
          rw [es]
          tb_rel
          have ec2 : (C.set j (.lk (toK w)) ++ [Cell.dic (toK (stepW w x))]).set j (.dic (toK w)) = C ++ [.dic (toK (stepW w x))] := by
            rw [List.set_append_left j _ (show j < (C.set j (.lk (toK w))).length by rw [List.length_set]; exact hj2), set_set, set_id e]
          rw [ec2]
          tb_rel
          obtain ⟨own, rfl⟩ := hown
          exact ⟨_, _, _, _, _, _, _, rfl, ⟨own ++ [.dic (toK (stepW w x))], by rw [List.append_assoc]⟩, by rw [List.length_append]; omega, cell_last⟩
  · rintro s ⟨C, j, o2, o3, o4, o5, o6, rfl, hown, hj, e⟩
    rw [List.length_map, List.take_length] at e
    tb_rel
    refine ret_okX ?_ (k C j hown hj e)
    show decide (j < ce.length) = false
    exact decide_eq_false (by omega)
/-- how many numbers up to N -/
theorem count_up_to_run (ce : List Cell) {a : List Int} {N : Int} (hl : a.length ≤ 12) (ha : ∀ d ∈ a, 0 < d ∧ d < 2 ^ 300) (hN : 0 ≤ N) (hb : bits N < 400000) : m_count_up_to [fo a, .int N] ce = .ok (.int (cnt a N.toNat)) ce := by
  have w1 := (weights_ok 0 a).2
  have w2 := weights_len a
  have w3 := weights_keb (u := 300) a ha
  have w4 := weights_abs a
  have w2 : (weights a).length ≤ 2 ^ 12 := by
    have : 2 ^ a.length ≤ 2 ^ 12 := Nat.pow_le_pow_right (by decide) hl
    omega
  have w3 : KeB 3600 (weights a) := keb_up w3 (by omega)
  have w4 : absW (weights a) ≤ 4 ^ 12 := by
    have : 4 ^ a.length ≤ 4 ^ 12 := Nat.pow_le_pow_right (by decide) hl
    omega
  have hc := counted_cnt (fun d hd => (ha d hd).1) (fun m hm => (w3 m hm).1) N.toNat
  rw [show ((N.toNat : Nat) : Int) = N by omega] at hc
  refine run_eq ?_
  unfold D_count_up_to
  wp_walk using check_from_run _ hN, weights_of_run _ hl ha
  rename_i C j hown hj e
  wp_walk using counted_run e w1 (by omega) (keb_up w3 (by decide)) (by omega) hN hb
  rw [hc]
  obtain ⟨own, rfl⟩ := hown
  exact ret_ok (ce' := ce) tail_own rfl rfl
end Pg

set_option maxRecDepth 100000
set_option maxHeartbeats 4000000
namespace Pg
open PySem PySem.Spec PyProof.Rows L2 Dv
@[simp] theorem low_hd (n : Nat) (l : List Int) : low n (hd l) = true := by cases l <;> rfl
theorem first_difference_run (ce : List Cell) (a b : List Int) (h : a.length + b.length < 100000) : m_first_difference [fo a, fo b] ce = .ok (hd (oddI (a ++ b))) ce := by
  refine run_eq ?_
  unfold D_first_difference
  wp_walk using form_divisors_run _ _, alone_run _ _ _ h
  cases oddI (a ++ b) with
  | nil =>
    refine ⟨_, rfl, br_t rfl ?_⟩
    tb_rel
    rfl
  | cons x r =>
    refine ⟨_, rfl, br_f rfl ?_⟩
    tb_rel
    rfl
theorem least_outside_run (ce : List Cell) {a b : List Int} (ha : slim a = true) (hb : slim b = true) (h : a.length * b.length < 100000) (h2 : (oddI (lcms a b)).length ≤ 200) (h3 : a.length < 90000) : m_least_outside [fo a, fo b] ce = .ok (hd (oddI (a ++ oddI (lcms a b)))) ce := by
  have l1 := odd_len (lcms a b)
  rw [lcms_len] at l1
  refine run_eq ?_
  unfold D_least_outside
  wp_walk using form_and_run _ ha hb h h2, first_difference_run _ _ _ (by omega)
  rfl
theorem within_run (ce : List Cell) {a b : List Int} (ha : slim a = true) (hb : slim b = true) (h : a.length * b.length < 100000) (h2 : (oddI (lcms a b)).length ≤ 200) (h3 : a.length < 90000) : m_within [fo a, fo b] ce = .ok (.bl (decide (oddI (a ++ oddI (lcms a b)) = []))) ce := by
  refine run_eq ?_
  unfold D_within
  wp_walk using least_outside_run _ ha hb h h2 h3
  cases oddI (a ++ oddI (lcms a b)) with
  | nil =>
    show Gq (pIs false ce .non .non) _ _ _
    tb_rel
    rfl
  | cons x r =>
    show Gq (pIs false ce (.int x) .non) _ _ _
    tb_rel
    rfl
end Pg

set_option maxRecDepth 100000
set_option maxHeartbeats 4000000
namespace Lw
open PySem PySem.Spec PyProof.Rows L2 Dv Pg
/-! urn and dip (k14 to k26) -/
theorem dip_run {ce : List Cell} {j N : Nat} {T : Tp} {m : Int} {f : Cell → List Cell} [hc : GetC ce j (.lst T.xs)] [hf : SetF ce j f] (hT : Tpk N T) (hN : N + 1 < 2 ^ 60) (hm : 1 ≤ m) (hb : bits m < 9000) :
    Fs (m__law_dip [.rf j, .int m] ce) fun Q => ∀ x T', 0 ≤ x → x < m → Tpk (N + 1) T' → Q (.ok (.int x) (f (.lst T'.xs))) := by
  refine run_fs fun Q k => ?_
  have hj : LtL j ce := ⟨ce_lt hc.eq⟩
  have k : ∀ (x : Int) (T' : Tp), 0 ≤ x → x < m → Tpk (N + 1) T' → Q (.ok (.int x) (ce.set j (.lst T'.xs))) := fun x T' h1 h2 h3 => by
    rw [hf.eq]
    exact k x T' h1 h2 h3
  clear hf
  have c1 := hT.c
  have c2 := hT.c'
  have a0 := hT.a
  have b0 := hT.b
  have b1 := hT.b'
  unfold D__law_dip
  tb_rel
  by_cases h : 0 < T.a
  · refine br_dt h ?_
    tb_rel
    exact k _ ⟨T.a / m, T.b, T.c⟩ (Int.emod_nonneg _ (by omega)) (Int.emod_lt_of_pos _ (by omega)) ⟨Int.ediv_nonneg a0 (by omega), b0, b1, c1, by show T.c ≤ _; omega⟩
  · refine br_df h ?_
    have hp : (0 : Int) ≤ T.c + 1 ∧ T.c + 1 < 2 ^ 61 := by omega
    have b3 : bits 160481183 < 100 := by decide +kernel
    have b4 : bits 49979693 < 100 := by decide +kernel
    have b5 := bits_le hp.1 hp.2
    have b6 : bits 10 < 10 := by decide +kernel
    have b7 : bits 524287 < 9000 := by decide +kernel
    tb_rel
    with_reducible apply q_pow ?_ ?_
    · exact pow_le' (k := 230) (by omega) (by omega) (by decide) (by decide)
    tb_rel
    have h3 := Int.emod_nonneg ((T.b + 160481183 * (T.c + 1)) ^ (3 : Int).toNat) (b := 100000000000000000000000000000000000000000 + 37) (by decide)
    have h4 := Int.emod_lt_of_pos ((T.b + 160481183 * (T.c + 1)) ^ (3 : Int).toNat) (b := 100000000000000000000000000000000000000000 + 37) (by decide)
    generalize (T.b + 160481183 * (T.c + 1)) ^ (3 : Int).toNat % (100000000000000000000000000000000000000000 + 37) = u at *
    with_reducible apply q_pow ?_ ?_
    · exact pow_le' (k := 230) (by omega) (by omega) (by decide) (by decide)
    tb_rel
    exact k _ ⟨T.a, T.b, T.c + 1⟩ (Int.emod_nonneg _ (by omega)) (Int.emod_lt_of_pos _ (by omega)) ⟨a0, b0, b1, by show 0 ≤ T.c + 1; omega, by show T.c + 1 ≤ _; omega⟩
theorem urn_run {ce : List Cell} {ns : List Int} {k0 : Nat} (hk : k0 < 64) :
    Fs (m__law_urn [.ro (ns.map .int), .int (k0 : Nat)] ce) fun Q => ∀ T, Tpk 0 T → Q (.nl (Tp.xs T) ce) := by
  refine run_fs fun Q k => ?_
  unfold D__law_urn
  have hb : ∀ u : Int, bits (u % (1000000000000000000000000000000000000000 + 3)) + bits 64 < 900000 := fun u => by
    have h5 := bits_le (i := u % (1000000000000000000000000000000000000000 + 3)) (k := 130) (Int.emod_nonneg u (by decide)) (by have := Int.emod_lt_of_pos u (b := 1000000000000000000000000000000000000000 + 3) (by decide); omega)
    have h6 : bits 64 < 10 := by decide +kernel
    omega
  have fin : ∀ u : Int, 0 ≤ u → Q (.nl [.int (if u - 1000000000000000000 > 0 then u - 1000000000000000000 else 0), .int (u % (1000000000000000000000000000000000000000 + 3) * 64 + (k0 : Int)), .int 0] ce) := fun u hu => by
    have h3 := Int.emod_nonneg u (b := 1000000000000000000000000000000000000000 + 3) (by decide)
    have h4 := Int.emod_lt_of_pos u (b := 1000000000000000000000000000000000000000 + 3) (by decide)
    refine k ⟨_, _, 0⟩ ⟨?_, ?_, ?_, Int.le_refl _, Int.le_refl _⟩
    · show 0 ≤ (if u - 1000000000000000000 > 0 then u - 1000000000000000000 else 0)
      split <;> omega
    · show 0 ≤ u % _ * 64 + (k0 : Int)
      omega
    · show u % _ * 64 + (k0 : Int) < 2 ^ 220
      omega
  tb_rel
  rw [List.length_map]
  by_cases h : k0 < ns.length
  · refine br_dt (by omega) ?_
    tb_rel
    have e : ns[k0]? = some ns[k0] := List.getElem?_eq_getElem h
    refine q_ix (xs := ns.map .int) rfl (atI_map D.int (by omega) (by rw [Int.toNat_natCast]; exact e)) ?_
    tb_rel
    refine q_mul (hb _) ?_
    tb_rel
    exact fin _ (by split <;> omega)
  · refine br_df (by omega) ?_
    tb_rel
    exact fin 0 (by decide)
theorem inside_run (ce : List Cell) {a : List Int} (n : Int) (hp : ∀ x ∈ a, 0 < x) (hl : a.length ≤ 100000) : m__law_inside [lI a, .int n] ce = .ok (.bl (pr a n)) ce := by
  refine run_eq ?_
  unfold D__law_inside
  tb_rel
  refine comp_ints (fun d => decide (n % d = 0)) .int hl (fun d hd => ?_) ?_
  · have := hp d hd
    tb_rel
    refine ⟨rfl, fun _ => ?_, fun _ => rfl⟩
    tb_rel
    exact ⟨rfl, rfl⟩
  tb_rel
  rw [par_len]
theorem common_run' (ce : List Cell) {a b : Int} (ha : 0 ≤ a) (hb : 0 ≤ b) : m__law_common [.int a, .int b] ce = .ok (.int (gcdI a b)) ce := by
  refine run_eq ?_
  unfold D__law_common
  tb_rel
  refine while_inv (fun s => ∃ u v : Int, s = (⟨[some (.int u), some (.int v)], ce, ce.length⟩ : S) ∧ 0 ≤ u ∧ 0 ≤ v ∧ gcdI u v = gcdI a b) (fun s => match s.sl with
    | [_, some (.int v)] => v.toNat
    | _ => 0) ⟨a, b, rfl, ha, hb, rfl⟩ ?_
  rintro s ⟨u, v, rfl, hu, hv, hg⟩
  tb_rel
  by_cases h : 0 < v
  · refine br_dt h ?_
    tb_rel
    have h1 := Int.emod_nonneg u (by omega : v ≠ 0)
    have h2 := Int.emod_lt_of_pos u h
    refine ⟨⟨v, u % v, rfl, hv, h1, ?_⟩, ?_⟩
    · rw [← hg]
      unfold gcdI
      have e : (u % v).natAbs = u.natAbs % v.natAbs := by
        have := Int.natAbs_emod_of_nonneg hu (b := v)
        omega
      rw [e, Nat.gcd_comm u.natAbs v.natAbs, Nat.gcd_rec v.natAbs u.natAbs, Nat.gcd_comm]
    · show (u % v).toNat < v.toNat
      omega
  · refine br_df h ?_
    tb_rel
    have e : v = 0 := by omega
    subst e
    rw [← hg]
    unfold gcdI
    rw [show (0 : Int).natAbs = 0 from rfl, Nat.gcd_zero_right]
    rw [Int.natAbs_of_nonneg hu]
end Lw

set_option maxRecDepth 100000
set_option maxHeartbeats 4000000
namespace Lw
open PySem PySem.Spec PyProof.Rows L2 Dv Pg
def IsN (lo hi : Int) (d : D) : Prop := ∃ y : Int, d = .int y ∧ lo ≤ y ∧ y < hi
theorem isN {lo hi y : Int} (h1 : lo ≤ y) (h2 : y < hi) : IsN lo hi (.int y) := ⟨y, rfl, h1, h2⟩
abbrev poolD : D := .lst [.int 2, .int 2, .int 3, .int 5, .int 7, .int 11, .int 13, .int 10007, .int (1000000 + 3), .int (1000000000 + 7)]
abbrev S9 (ce : List Cell) (j many : Nat) (T : Tp) (acc : List Int) (o4 o5 o6 o7 o8 : Option D) : S := ⟨[some (.rf j), some (.int (many : Nat)), some poolD, some (.rf ce.length), o4, o5, o6, o7, o8], ce.set j (.lst (Tp.xs T)) ++ [.lst (acc.map D.int)], ce.length⟩
theorem snoc_int (l : List Int) (x : Int) : l.map D.int ++ [D.int x] = (l ++ [x]).map D.int := by rw [List.map_append] <;> rfl
theorem great_run {ce : List Cell} {j N : Nat} {T : Tp} {many : Nat} {f : Cell → List Cell} [hc : GetC ce j (.lst T.xs)] [hf : SetF ce j f] (hT : Tpk N T) (hm : many ≤ 200) (hN : N + 100 * many + 10 < 2 ^ 60) :
    Fs (m__law_great [.rf j, .int (many : Nat)] ce) fun Q => ∀ L T', Gt many L → Tpk (N + 100 * many + 10) T' → Q (.nl (L.map .int) (f (.lst T'.xs))) := by
  refine run_fs fun Q k => ?_
  have hj : LtL j ce := ⟨ce_lt hc.eq⟩
  have k : ∀ L T', Gt many L → Tpk (N + 100 * many + 10) T' → Q (.nl (L.map .int) (ce.set j (.lst T'.xs))) := fun x T' h1 h2 => by
    rw [hf.eq]
    exact k x T' h1 h2
  clear hf
  unfold D__law_great
  have b5 : ∀ {i : Int}, 0 ≤ i → i < 1000000000000000000000000000000 → bits i < 9000 := fun h0 h => bits_small h0 (by omega)
  wp_walk using dip_run ‹_› (by omega) (by omega) (by exact bits_small (by omega) (by omega))
  refine q_ixP (IsN 0 (many + 1)) rfl (by omega) (by simp; omega) (all2 (isN (by omega) (by omega)) (isN (by omega) (by omega))) ?_
  rintro _ ⟨y, rfl, y0, y1⟩
  tb_rel
  refine for_inv (fun i s => ∃ o4 o5 o6 o7 o8 T' acc, s = S9 ce j many T' acc o4 o5 o6 o7 o8 ∧ Tpk (N + 2 + 50 * i) T' ∧ acc.length = i ∧ ∀ x ∈ acc, 0 < x ∧ x < 100000000000000000000)
    ⟨none, none, none, none, none, _, [], rfl, ‹_›, rfl, fun x hx => by cases hx⟩ ?_ ?_
  · rintro i d s hd ⟨o4, o5, o6, o7, o8, T1, acc, rfl, hT1, hl, ha⟩
    obtain ⟨rfl, hi⟩ := rng_mem hd
    wp_walk using dip_run ‹_› (by omega) (by omega) (by exact bits_small (by omega) (by omega))
    rename_i z T2 z0 z1 hT2
    refine for_inv (fun i' s => ∃ m o6 o7 T', s = S9 ce j many T' acc (some (.int i)) (some (.int m)) o6 o7 o8 ∧ Tpk (N + 2 + 50 * i + 1 + 2 * i') T' ∧ 1 ≤ m ∧ m < 100000000000000000000) ⟨1, o6, o7, T2, rfl, hT2, by decide, by decide⟩ ?_ ?_
    · rintro i' d s hd ⟨m, o6, o7, T3, rfl, hT3, m0, m1⟩
      obtain ⟨rfl, hi'⟩ := rng_mem hd
      wp_walk using dip_run ‹_› (by omega) (by omega) (by exact bits_small (by omega) (by omega))
      rename_i u T4 u0 u1 hT4
      refine q_ixP (IsN 1 11) rfl (by omega) (by simp; omega) (all1 (isN (by omega) (by omega)) (all2 (isN (by omega) (by omega)) (isN (by omega) (by omega)))) ?_
      rintro _ ⟨v, rfl, v0, v1⟩
      wp_walk using dip_run ‹_› (by omega) (by omega) (by exact bits_small (by omega) (by omega))
      rename_i w T5 w0 w1 hT5
      refine q_ixP (IsN 1 1000000008) rfl (by omega) (by simp; omega) (by
        repeat refine all1 (isN (by omega) (by omega)) ?_
        exact all0) ?_
      rintro _ ⟨p, rfl, p0, p1⟩
      have b1 : bits m + bits p < 900000 := by
        have := bits_small (i := m) (by omega) (by omega)
        have := bits_small (i := p) (by omega) (by omega)
        omega
      tb_rel
      by_cases hmp : m * p < 100000000000000000000
      · refine br_dt hmp ?_
        tb_rel
        exact ⟨m * p, _, _, T5, rfl, hT5.up (by omega), Int.mul_pos (by omega) (by omega), hmp⟩
      · refine br_df hmp ?_
        tb_rel
        exact ⟨m, _, _, T5, rfl, hT5.up (by omega), m0, m1⟩
    · rintro s ⟨m, o6, o7, T3, rfl, hT3, m0, m1⟩
      rw [rngD_length] at hT3
      wp_walk using dip_run ‹_› (by omega) (by omega) (by exact bits_small (by omega) (by omega))
      rename_i v T6 v0 v1 hT6
      refine q_ixP (IsN 1 100000000000000000000) rfl (by omega) (by simp; omega) (by
        repeat refine all1 (isN (by omega) (by omega)) ?_
        exact all0) ?_
      rintro _ ⟨x, rfl, x0, x1⟩
      tb_rel
      refine ⟨_, _, _, _, _, T6, acc ++ [x], by rw [snoc_int] <;> rfl, hT6.up (by omega), by simp [hl], fun z hz => ?_⟩
      rcases List.mem_append.mp hz with h | h
      · exact ha z h
      · cases List.mem_singleton.mp h
        omega
  · rintro s ⟨o4, o5, o6, o7, o8, T1, acc, rfl, hT1, hl, ha⟩
    rw [rngD_length] at hT1 hl
    tb_rel
    exact k _ _ (gt_sset ha (by omega)) (hT1.up (by omega))
/-- lcm by a product over the gcd -/
theorem lcm_div {a b : Int} (ha : 0 < a) (hb : 0 < b) : a * b / gcdI a b = lcmI a b := by
  have h1 : (a.natAbs : Int) = a := Int.natAbs_of_nonneg (by omega)
  have h2 : (b.natAbs : Int) = b := Int.natAbs_of_nonneg (by omega)
  unfold gcdI lcmI Nat.lcm
  rw [Int.natCast_ediv, Int.natCast_mul, h1, h2]
theorem gcdI_pos' {a b : Int} (ha : 0 < a) : 0 < gcdI a b := by
  unfold gcdI
  have : 0 < Nat.gcd a.natAbs b.natAbs := Nat.gcd_pos_of_pos_left _ (by omega)
  omega
theorem gcdI_le {a b : Int} (ha : 0 < a) : gcdI a b ≤ a := by
  have h : Nat.gcd a.natAbs b.natAbs ≤ a.natAbs := Nat.le_of_dvd (by omega) (Nat.gcd_dvd_left _ _)
  unfold gcdI
  omega
theorem bits_mono {a b : Int} (ha : 0 ≤ a) (h : a ≤ b) : bits a ≤ bits b := by
  unfold bits
  exact log2_mono (by omega)
theorem bits_gcd {a b : Int} (ha : 0 < a) : bits (gcdI a b) ≤ bits a := bits_mono (by have := gcdI_pos' (b := b) ha; omega) (gcdI_le ha)
theorem odd_v2_run (ce : List Cell) {a : List Int} (hl : a.length < 4000) : m__law_odd_v2 [lI a] ce = .nl ((oddI a).map .int) ce := by
  refine run_eq ?_
  unfold D__law_odd_v2
  tb_rel
  have hl2 := sset_len a
  refine comp_ints (fun d => decide (((a.count d : Nat) : Int) % 2 = 1)) .int (by omega) (fun d hd => ?_) ?_
  · tb_rel
    refine ⟨rfl, fun _ => ?_, fun _ => rfl⟩
    tb_rel
    exact ⟨rfl, rfl⟩
  tb_rel
  rw [sset_count]
theorem both_run (ce : List Cell) {a b : List Int} (ha : ∀ x ∈ a, 0 < x ∧ x < 2 ^ 4000) (hb : ∀ x ∈ b, 0 < x ∧ x < 2 ^ 4000) (hl : a.length * b.length < 4000) (h2 : b.length ≤ 4000) : m__law_both [lI a, lI b] ce = .nl ((oddI (lcms a b)).map .int) ce := by
  refine run_eq ?_
  unfold D__law_both
  tb_rel
  refine for_inv (fun i s => ∃ o3, s = (⟨[some (lI a), some (lI b), some (.rf ce.length), o3, none], ce ++ [.lst ((lcms (a.take i) b).map D.int)], ce.length⟩ : S)) ⟨none, rfl⟩ ?_ ?_
  · rintro i d s hd ⟨o3, rfl⟩
    rw [List.getElem?_map] at hd
    cases hx : a[i]? with
    | none =>
      rw [hx] at hd
      cases hd
    | some x =>
      rw [hx] at hd
      cases hd
      obtain ⟨x0, x1⟩ := ha x (List.mem_of_getElem? hx)
      have hi := (List.getElem?_eq_some_iff.mp hx).1
      tb_rel
      refine comp_intsA (fun y => .int (lcmI x y)) (by omega) (fun y hy => ?_) ?_
      · obtain ⟨y0, y1⟩ := hb y hy
        have b1 := bits_le (i := x) (by omega) x1
        have b2 := bits_le (i := y) (by omega) y1
        have g0 := gcdI_pos' (a := x) (b := y) x0
        have g1 := bits_gcd (a := x) (b := y) x0
        wp_walk using common_run' _ (by omega) (by omega)
        exact ⟨by rw [lcm_div x0 y0], rfl⟩
      have et : a.take (i + 1) = a.take i ++ [x] := by
        rw [List.take_succ, hx] <;> rfl
      have el : lcms (a.take i) b ++ b.map (lcmI x) = lcms (a.take (i + 1)) b := by
        rw [et]
        unfold lcms
        simp
      have len := lcms_len (a.take (i + 1)) b
      rw [← el, List.length_append, List.length_take] at len
      have hm : (min (i + 1) a.length) * b.length ≤ a.length * b.length := Nat.mul_le_mul_right _ (Nat.min_le_right _ _)
      have len' : ((lcms (a.take i) b).map D.int).length + (b.map fun y => D.int (lcmI x y)).length ≤ 100000 := by
        rw [List.length_map] at len
        rw [List.length_map, List.length_map]
        omega
      tb_rel
      refine ⟨some (.int x), ?_⟩
      rw [← el, List.map_append, List.map_map] <;> rfl
  · rintro s ⟨o3, rfl⟩
    rw [List.length_map, List.take_length]
    wp_walk using odd_v2_run _ (by rw [lcms_len]; exact hl)
    rfl
theorem multiple_run (ce : List Cell) {a : List Int} (ha : ∀ x ∈ a, 0 < x ∧ x < 2 ^ 70) (hl : a.length ≤ 100) : m__law_multiple [lI a] ce = .ok (.int (a.foldl lcmI 1)) ce := by
  refine run_eq ?_
  unfold D__law_multiple
  tb_rel
  refine for_inv (fun i s => ∃ o2, s = (⟨[some (lI a), some (.int ((a.take i).foldl lcmI 1)), o2], ce, ce.length⟩ : S) ∧ 0 < (a.take i).foldl lcmI 1 ∧ (a.take i).foldl lcmI 1 < 2 ^ (70 * i + 1)) ⟨none, rfl, by show (0 : Int) < 1; decide, by show (1 : Int) < 2 ^ (70 * 0 + 1); decide⟩ ?_ ?_
  · rintro i d s hd ⟨o2, rfl, u0, u1⟩
    rw [List.getElem?_map] at hd
    cases hx : a[i]? with
    | none =>
      rw [hx] at hd
      cases hd
    | some x =>
      rw [hx] at hd
      cases hd
      obtain ⟨x0, x1⟩ := ha x (List.mem_of_getElem? hx)
      have hi := (List.getElem?_eq_some_iff.mp hx).1
      have et : a.take (i + 1) = a.take i ++ [x] := by
        rw [List.take_succ, hx] <;> rfl
      generalize hu : (a.take i).foldl lcmI 1 = u at *
      have b1 := bits_le (i := u) (by omega) u1
      have b2 := bits_le (i := x) (by omega) x1
      have g0 := gcdI_pos' (a := u) (b := x) u0
      have g1 := bits_gcd (a := u) (b := x) u0
      have n1 := lcm_lt (i := u) (j := x) ⟨u0, u1⟩ ⟨x0, x1⟩
      wp_walk using common_run' _ (by omega) (by omega)
      refine ⟨some (.int x), ?_⟩
      rw [et, List.foldl_append, hu, lcm_div u0 x0]
      exact ⟨rfl, n1.1, by rw [show 70 * (i + 1) + 1 = 70 * i + 1 + 70 from by omega]; exact n1.2⟩
  · rintro s ⟨o2, rfl, u0, u1⟩
    rw [List.length_map, List.take_length]
    tb_rel
    rfl
end Lw

set_option maxRecDepth 100000
set_option maxHeartbeats 4000000
namespace Lw
open PySem PySem.Spec PyProof.Rows L2 Dv Pg
/-! vase, stem, drawn (k27 to k36) -/
structure Vs where
  l : List Int
  b : Int
  c : Int
def VC (V : Vs) : List Cell := [.lst (V.l.map .int), .lst [.rf 0, .int V.b, .int V.c]]
instance getC_p0 {x y : Cell} : GetC [x, y] 0 x := ⟨rfl⟩
instance getC_p1 {x y : Cell} : GetC [x, y] 1 y := ⟨rfl⟩
instance setF_p0 {x y : Cell} : SetF [x, y] 0 (fun c => [c, y]) := ⟨fun _ => rfl⟩
instance setF_p1 {x y : Cell} : SetF [x, y] 1 (fun c => [x, c]) := ⟨fun _ => rfl⟩
instance ltL_p0 {x y : Cell} : LtL 0 [x, y] := ⟨(by decide : 0 < 2)⟩
instance ltL_p1 {x y : Cell} : LtL 1 [x, y] := ⟨(by decide : 1 < 2)⟩
structure VG (N : Nat) (V : Vs) : Prop where
  l : ∀ x ∈ V.l, 0 ≤ x
  b : 0 ≤ V.b
  b' : V.b < 2 ^ 128
  c : 0 ≤ V.c
  c' : V.c ≤ N
theorem VG.up {N M : Nat} {V : Vs} (h : VG N V) (hN : N ≤ M) : VG M V := ⟨h.l, h.b, h.b', h.c, by have := h.c'; omega⟩
class VsC (ce : List Cell) (V : outParam Vs) (g : outParam (Vs → List Cell)) : Prop where
  eq : ce = g V
  sh : ∃ r, ∀ W, g W = VC W ++ r
instance vsC0 {V : Vs} {r : List Cell} : VsC (VC V ++ r) V (fun W => VC W ++ r) := ⟨rfl, ⟨r, fun _ => rfl⟩⟩
instance vsC1 {ce own : List Cell} {V : Vs} {g : Vs → List Cell} [h : VsC ce V g] : VsC (ce ++ own) V (fun W => g W ++ own) := ⟨by rw [h.eq], by
  obtain ⟨r, hr⟩ := h.sh
  exact ⟨r ++ own, fun W => by rw [hr, List.append_assoc]⟩⟩
theorem vs_tail {V V' : Vs} {r own : List Cell} {sl : List (Option D)} {n0 : Nat} : Tail (VC V ++ r) (VC V' ++ r) ⟨sl, VC V' ++ r ++ own, n0⟩ := by
  refine ⟨⟨own, rfl⟩, ?_, fun j x h => ?_⟩
  · rw [List.length_append, List.length_append] <;> rfl
  · match j with
    | 0 =>
      cases h
      exact .inr (lowL_ints _ _)
    | 1 =>
      cases h
      refine .inr ?_
      show (decide (0 < (VC V ++ r).length) && (true && (true && true))) = true
      rw [List.length_append]
      have : (VC V).length = 2 := rfl
      rw [this]
      simp
      omega
    | j + 2 => exact .inl h
theorem vs_tail0 {V V' : Vs} {r : List Cell} {sl : List (Option D)} {n0 : Nat} : Tail (VC V ++ r) (VC V' ++ r) ⟨sl, VC V' ++ r, n0⟩ := by
  have h := vs_tail (V := V) (V' := V') (r := r) (own := []) (sl := sl) (n0 := n0)
  rw [List.append_nil] at h
  exact h
theorem vs_tail2 {V V' : Vs} {r own o2 : List Cell} {sl : List (Option D)} {n0 : Nat} : Tail (VC V ++ r) (VC V' ++ r) ⟨sl, VC V' ++ r ++ own ++ o2, n0⟩ := by
  rw [List.append_assoc _ own]
  exact vs_tail
theorem stem_run {ce : List Cell} {V : Vs} {g : Vs → List Cell} {N : Nat} {m : Int} [hv : VsC ce V g] (hV : VG N V) (hN : N + 1 < 2 ^ 60) (hm : 1 ≤ m) (hb : bits m < 9000) :
    Fs (m__law_stem [.rf 1, .int m] ce) fun Q => ∀ x V', 0 ≤ x → x < m → VG (N + 1) V' → Q (.ok (.int x) (g V')) := by
  refine run_fs fun Q k => ?_
  obtain ⟨r, hr⟩ := hv.sh
  have ec := hv.eq
  rw [hr] at ec
  clear hv
  have k : ∀ x V', 0 ≤ x → x < m → VG (N + 1) V' → Q (.ok (.int x) (VC V' ++ r)) := fun x V' h1 h2 h3 => by
    rw [← hr]
    exact k x V' h1 h2 h3
  subst ec
  obtain ⟨l, b, c⟩ := V
  have hl : ∀ x ∈ l, 0 ≤ x := hV.l
  have hb0 : 0 ≤ b := hV.b
  have hb' : b < 2 ^ 128 := hV.b'
  have hc : 0 ≤ c := hV.c
  have hc' : c ≤ N := hV.c'
  clear hV hr
  unfold D__law_stem
  tb_rel
  refine while_inv (fun s => ∃ l' : List Int, s = (⟨[some (.rf 1), some (.int m), none, none], [.lst (l'.map .int), .lst [.rf 0, .int b, .int c]] ++ r, (VC ⟨l, b, c⟩ ++ r).length⟩ : S) ∧ ∀ x ∈ l', 0 ≤ x) (fun s => match s.ce[0]? with
    | some (Cell.lst xs) => xs.length
    | _ => 0) ⟨l, rfl, hl⟩ ?_
  rintro s ⟨l', rfl, hl'⟩
  have c1 : bits b < 400 := Nat.lt_of_le_of_lt (bits_le hb0 hb') (by decide)
  have c2 : bits (c + 1) < 400 := Nat.lt_of_le_of_lt (bits_le (show 0 ≤ c + 1 by omega) (show c + 1 < 2 ^ 61 by omega)) (by decide)
  have c3 : bits 70001 < 400 := by decide +kernel
  have c4 : bits 31 < 400 := by decide +kernel
  have c5 : bits 90001 < 400 := by decide +kernel
  have c6 : bits 10 < 400 := by decide +kernel
  have c7 : bits 100000000000000000000000000000000000000 < 400 := by decide +kernel
  have c8 : bits (70001 * (c + 1)) < 400 := Nat.lt_of_le_of_lt (bits_le (show 0 ≤ 70001 * (c + 1) by omega) (show 70001 * (c + 1) < 2 ^ 80 by omega)) (by decide)
  cases l' with
  | nil =>
    tb_rel
    have h3 := Int.emod_nonneg (b * b + 70001 * (c + 1) * (c + 1) + 31 * (c + 1)) (b := 170141183460469231731687303715884105727) (by decide)
    have h4 := Int.emod_lt_of_pos (b * b + 70001 * (c + 1) * (c + 1) + 31 * (c + 1)) (b := 170141183460469231731687303715884105727) (by decide)
    generalize (b * b + 70001 * (c + 1) * (c + 1) + 31 * (c + 1)) % 170141183460469231731687303715884105727 = u at *
    have c9 : bits u < 400 := Nat.lt_of_le_of_lt (bits_le h3 (show u < 2 ^ 128 by omega)) (by decide)
    tb_rel
    exact ret_ok (ce' := VC ⟨[], u, c + 1⟩ ++ r) vs_tail0 rfl (k _ ⟨[], u, c + 1⟩ (Int.emod_nonneg _ (by omega)) (Int.emod_lt_of_pos _ (by omega)) ⟨hl', h3, by show u < 2 ^ 128; omega, by show 0 ≤ c + 1; omega, by show c + 1 ≤ _; omega⟩)
  | cons x l' => 
    have hx := hl' x List.mem_cons_self
    have hr : ∀ y ∈ l', 0 ≤ y := fun y hy => hl' y (List.mem_cons_of_mem _ hy)
    tb_rel
    by_cases h : x < 2
    · refine br_dt h ?_
      tb_rel
      exact ⟨⟨l', rfl, hr⟩, by
        show (l'.map D.int).length < ((x :: l').map D.int).length
        rw [List.map_cons, List.length_cons]
        omega⟩
    · refine br_df h ?_
      tb_rel
      refine x_setI (n := 0) GetC.eq ?_ ?_
      · rw [List.length_map]
        unfold ixN
        rw [if_pos (by decide), if_pos (by rw [List.length_cons]; omega)] <;> rfl
      tb_rel
      exact ret_ok (ce' := VC ⟨x / m :: l', b, c⟩ ++ r) vs_tail0 rfl (k _ ⟨x / m :: l', b, c⟩ (Int.emod_nonneg _ (by omega)) (Int.emod_lt_of_pos _ (by omega)) ⟨fun y hy => by
        rcases List.mem_cons.mp hy with rfl | hy
        · exact Int.ediv_nonneg hx (by omega)
        · exact hr y hy, hb0, hb', hc, by show c ≤ _; omega⟩)
theorem vase_run {ns : List Int} (hl : ns.length ≤ 63) :
    Fs (m__law_vase [.ro (ns.map .int)] []) fun Q => ∀ V, VG 0 V → Q (.nl [.rf 0, .int V.b, .int V.c] [.lst (V.l.map .int)]) := by
  refine run_fs fun Q k => ?_
  unfold D__law_vase
  have c1 : bits 4101842887655102017 < 400 := by decide +kernel
  tb_rel
  rw [cut_to (by decide), ← List.map_take]
  refine for_inv (fun _ s => ∃ (b : Int) (o : Option D), s = (⟨[some (.ro (ns.map .int)), some (.int b), o], [], 0⟩ : S) ∧ 0 ≤ b ∧ b < 2 ^ 128) ⟨_, _, rfl, by decide, by decide⟩ ?_ ?_
  · rintro i d s hd ⟨b, o, rfl, hb, hb'⟩
    rw [List.getElem?_map] at hd
    cases hx : (ns.take (40 : Int).toNat)[i]? with
    | none =>
      rw [hx] at hd
      cases hd
    | some x =>
      rw [hx] at hd
      cases hd
      have c2 : bits b < 400 := Nat.lt_of_le_of_lt (bits_le hb hb') (by decide)
      tb_rel
      refine ⟨_, _, rfl, Int.emod_nonneg _ (by decide), ?_⟩
      have h4 := Int.emod_lt_of_pos (b * 4101842887655102017 + x) (b := 170141183460469231731687303715884105727) (by decide)
      omega
  · rintro s ⟨b, o, rfl, hb, hb'⟩
    tb_rel
    rw [cut_to (by decide), ← List.map_take]
    refine comp_ints (fun x => decide ((if x < 0 then -x else x) ≥ 1000000000000000000)) (fun x => .int (if x < 0 then -x else x)) ?_ (fun x hx => ?_) ?_
    · rw [List.length_take]
      omega
    · tb_rel
      refine ⟨rfl, fun _ => ?_, fun _ => rfl⟩
      tb_rel
      exact ⟨rfl, rfl⟩
    · tb_rel
      refine ret_nlX rfl ?_
      rw [List.nil_append]
      have e : (((ns.take (40 : Int).toNat).filter fun x => decide ((if x < 0 then -x else x) ≥ 1000000000000000000)).map fun x => D.int (if x < 0 then -x else x)) = (((ns.take (40 : Int).toNat).filter fun x => decide ((if x < 0 then -x else x) ≥ 1000000000000000000)).map fun x => (if x < 0 then -x else x)).map D.int := by rw [List.map_map] <;> rfl
      rw [e]
      refine k ⟨_, b, 0⟩ ⟨fun x hx => ?_, hb, hb', Int.le_refl _, Int.le_refl _⟩
      obtain ⟨y, _, rfl⟩ := List.mem_map.mp hx
      split <;> omega
/-- the length of cells whose vase has changed -/
class LenE (ce : List Cell) (n : Nat) : Prop where
  eq : ce.length = n
instance lenE0 {V V' : Vs} {r : List Cell} : LenE (VC V' ++ r) (VC V ++ r).length := ⟨by rw [List.length_append, List.length_append] <;> rfl⟩
instance lenEA {a b own : List Cell} [h : LenE a b.length] : LenE (a ++ own) (b ++ own).length := ⟨by rw [List.length_append, List.length_append, h.eq]⟩
instance lenE1 {a b : List Cell} {x y : Cell} [h : LenE a b.length] : LenE (a ++ [x]) (b ++ [y]).length := ⟨by rw [List.length_append, List.length_append, h.eq] <;> rfl⟩
instance (priority := 50) getC_lastE {ce : List Cell} {n : Nat} {c : Cell} [h : LenE ce n] : GetC (ce ++ [c]) n c := ⟨by rw [← h.eq]; exact ce_one⟩
instance (priority := 1450) setF3E {ce : List Cell} {n : Nat} {d : Cell} [h : LenE ce n] : SetF (ce ++ [d]) n (fun c => ce ++ [c]) := ⟨fun c => by rw [← h.eq]; exact set_one⟩
instance ltL_lastE {ce : List Cell} {n : Nat} {c : Cell} [h : LenE ce n] : LtL n (ce ++ [c]) := ⟨by rw [List.length_append, h.eq]; show n < n + 1; omega⟩
theorem drawn_run {ce : List Cell} {V : Vs} {g : Vs → List Cell} {N : Nat} {m w : Int} [hv : VsC ce V g] (hV : VG N V) (hN : N + 100 < 2 ^ 60) (hm : 0 ≤ m) (hm' : m ≤ 12) (hw : 1 ≤ w) (hb : w < 2 ^ 300) :
    Fs (m__law_drawn [.rf 1, .int m, .int w] ce) fun Q => ∀ (E : List Int) V', VG (N + 100) V' → E.Pairwise (· < ·) → (∀ d ∈ E, 1 ≤ d ∧ d ≤ w) → (E.length : Int) ≤ m → Q (.nl (E.map .int) (g V')) := by
  refine run_fs fun Q k => ?_
  obtain ⟨r, hr⟩ := hv.sh
  have ec := hv.eq
  rw [hr] at ec
  clear hv
  have k : ∀ (E : List Int) V', VG (N + 100) V' → E.Pairwise (· < ·) → (∀ d ∈ E, 1 ≤ d ∧ d ≤ w) → (E.length : Int) ≤ m → Q (.nl (E.map .int) (VC V' ++ r)) := fun E V' h1 h2 h3 h4 => by
    rw [← hr]
    exact k E V' h1 h2 h3 h4
  clear hr
  subst ec
  unfold D__law_drawn
  wp_walk using stem_run ‹_› (by omega) (by omega) (by exact bits_small (by omega) (by omega))
  rename_i many _ m0 m1 _ way _ w0 w1 _ base V1 b0 b1 hV1
  refine for_inv (fun i s => ∃ (h : Int) (F : List Int) (V' : Vs) (own : List Cell) (o9 o10 : Option D), s = (⟨[some (.rf 1), some (.int m), some (.int w), some (.int many), some (.int way), some (.int (1 + base)), some (.rf (VC V1 ++ r).length), some (.int h), some (.int (1 + (1 + base) % 7)), o9, o10], VC V' ++ r ++ [.lst (F.map .int)] ++ own, (VC V ++ r).length⟩ : S) ∧ VG (N + 3 + 4 * i) V' ∧ 1 ≤ h ∧ h ≤ ((4 ^ i : Nat) : Int) ∧ F.length = i ∧ (∀ d ∈ F, 1 ≤ d ∧ d ≤ w))
    ⟨1, [], V1, [], none, none, by rw [List.append_nil] <;> rfl, hV1, by decide, by decide, rfl, fun d hd => by cases hd⟩ ?_ ?_
  · rintro i d s hd ⟨h, F, V', own, o9, o10, rfl, hV', h1, h4, hF, hFw⟩
    obtain ⟨rfl, hi⟩ := rng_mem hd
    have p4 : ((4 ^ i : Nat) : Int) ≤ ((4 ^ 12 : Nat) : Int) := Int.ofNat_le.mpr (Nat.pow_le_pow_right (by decide) (by omega))
    have p5 : ((4 ^ (i + 1) : Nat) : Int) = ((4 ^ i : Nat) : Int) * 4 := by rw [Nat.pow_succ, Int.natCast_mul] <;> rfl
    have b1 : bits h < 9000 := bits_small (by omega) (by omega)
    have b2 : ∀ {x : Int}, 0 ≤ x → x < 4 → bits (1 + x) < 9000 := fun h1 h2 => bits_small (by omega) (by omega)
    have b3 : ∀ {x : Int}, 0 ≤ x → x < w → bits (1 + x) < 9000 := fun h1 h2 => bits_small (by omega) (by omega)
    have b4 : bits (1 + (1 + base) % 7) < 9000 := bits_small (by omega) (by omega)
    have s0 : 0 < 1 + (1 + base) % 7 := by omega
    have s1 : w / (1 + (1 + base) % 7) ≤ w := Int.ediv_le_self _ (by omega)
    have b5 : ∀ {x : Int}, 0 ≤ x → x < w + 1 → bits (1 + x) < 9000 := fun h1 h2 => bits_small (by omega) (by omega)
    generalize hst : 1 + (1 + base) % 7 = st at *
    wp_walk using stem_run ‹_› (by omega) (by omega) (by exact bits_small (by omega) (by omega))
    rename_i x V2 x0 x1 hV2
    refine q_mul (by have := b2 x0 x1; omega) ?_
    have hp : 1 ≤ h * (1 + x) := Int.mul_pos (by omega) (by omega)
    have hp4 : h * (1 + x) ≤ ((4 ^ (i + 1) : Nat) : Int) := by
      rw [p5]
      exact Int.mul_le_mul h4 (by omega) (by omega) (by omega)
    generalize h * (1 + x) = h' at *
    wp_walk using stem_run ‹_› (by omega) (by omega) (by exact bits_small (by omega) (by omega))
    rename_i y V3 y0 y1 hV3
    rename_i u _ u0 u1 _ v _ v0 v1 _ _ _ _ _ _
    have yb : y < w + 1 := by
      split at y1 <;> omega
    refine q_mul (by have := b5 y0 yb; omega) ?_
    have hz : 1 ≤ st * (1 + y) := Int.mul_pos (by omega) (by omega)
    generalize st * (1 + y) = z at *
    tb_rel
    rename_i t _ t0 t1 _
    refine q_ixP (xs := [D.int (1 + v), D.int h', D.int (1 + t)] ++ [D.int z]) (fun d => ∃ y, d = D.int y ∧ 1 ≤ y) ?_ w0 (show way < 4 from w1) ?_ ?_
    · show cellL _ = _
      rw [GetC.eq] <;> rfl
    · refine all1 ⟨_, rfl, by omega⟩ (all1 ⟨_, rfl, hp⟩ (all1 ⟨_, rfl, by omega⟩ (all1 ⟨_, rfl, hz⟩ all0)))
    rintro _ ⟨y', rfl, hy'⟩
    tb_rel
    rw [snoc_int, List.append_assoc _ own]
    refine ⟨h', _, V3, _, _, _, rfl, hV3.up (by omega), hp, hp4, ?_, ?_⟩
    · rw [List.length_append, hF] <;> rfl
    · intro d hd
      rcases List.mem_append.mp hd with hd | hd
      · exact hFw d hd
      · cases List.mem_singleton.mp hd
        split <;> omega
  · rintro s ⟨h, F, V', own, o9, o10, rfl, hV', h1, h4, hF, hFw⟩
    rw [rngD_length] at hV' hF
    tb_rel
    refine ret_nl (ce' := VC V' ++ r) vs_tail2 (lowL_ints _ _) (k _ V' (hV'.up (by omega)) (sset_asc F) (fun d hd => hFw d (sset_mem.mp hd)) ?_)
    have := sset_len F
    omega
end Lw
namespace Dv
def rngI (lo : Int) (n : Nat) : List Int := (List.range n).map fun k => lo + (k : Nat)
theorem rngD_I (lo : Int) (n : Nat) : rngD lo n = (rngI lo n).map D.int := by
  unfold rngD rngI
  rw [List.map_map] <;> rfl
theorem rngI_len (lo : Int) (n : Nat) : (rngI lo n).length = n := by
  unfold rngI
  rw [List.length_map, List.length_range]
theorem rngI_mem {lo x : Int} {n : Nat} : x ∈ rngI lo n ↔ lo ≤ x ∧ x < lo + n := by
  unfold rngI
  rw [List.mem_map]
  constructor
  · rintro ⟨k, hk, rfl⟩
    have := List.mem_range.mp hk
    omega
  · rintro ⟨h1, h2⟩
    exact ⟨(x - lo).toNat, List.mem_range.mpr (by omega), by omega⟩
/-- the numbers of a form up to n -/
def Tab (a : List Int) (n : Nat) : List Int := (rngI 1 n).filter (pr a)
theorem tb_mem {a : List Int} {n : Nat} {x : Int} : x ∈ Tab a n ↔ (1 ≤ x ∧ x ≤ n) ∧ pr a x = true := by
  unfold Tab
  rw [List.mem_filter, rngI_mem]
  constructor <;> rintro ⟨h1, h2⟩ <;> exact ⟨by omega, h2⟩
theorem tb_len (a : List Int) (n : Nat) : (((Tab a n).length : Nat) : Int) = cnt a n := by
  unfold Tab rngI cnt
  rw [List.filter_map, List.length_map]
  rfl
theorem tb_succ (a : List Int) (n : Nat) : Tab a (n + 1) = Tab a n ++ if pr a (1 + (n : Int)) = true then [1 + (n : Int)] else [] := by
  unfold Tab rngI
  rw [List.range_succ, List.map_append, List.filter_append]
  congr 1
  by_cases h : pr a (1 + (n : Int)) = true <;> simp [h, List.filter]
theorem tb_upto (a : List Int) {m : Nat} : ∀ {n : Nat}, m ≤ n → (Tab a n).filter (fun x => decide (x ≤ (m : Int))) = Tab a m
  | 0, h => by
    have : m = 0 := by omega
    subst this
    rfl
  | n + 1, h => by
    by_cases e : m = n + 1
    · subst e
      rw [List.filter_eq_self]
      intro x hx
      have := (tb_mem.mp hx).1
      exact decide_eq_true (by omega)
    · rw [tb_succ, List.filter_append, tb_upto a (by omega : m ≤ n)]
      have : (List.filter (fun x => decide (x ≤ (m : Int))) (if pr a (1 + (n : Int)) = true then [1 + (n : Int)] else [])) = [] := by
        rw [List.filter_eq_nil_iff]
        intro x hx
        split at hx
        · cases List.mem_singleton.mp hx
          simp
          omega
        · cases hx
      rw [this, List.append_nil]
end Dv
namespace Lw
open PySem PySem.Spec PyProof.Rows L2 Dv Pg
theorem is_in_run (ce : List Cell) {a : List Int} (n : Int) (hp : ∀ x ∈ a, 0 < x) (hl : a.length ≤ 100000) : m__law_is_in [lI a, .int n] ce = .ok (.bl (pr a n)) ce := by
  refine run_eq ?_
  unfold D__law_is_in
  tb_rel
  refine comp_ints (fun d => decide (n % d = 0)) (fun _ => .int 1) hl (fun d hd => ?_) ?_
  · have := hp d hd
    tb_rel
    refine ⟨rfl, fun _ => ?_, fun _ => rfl⟩
    tb_rel
    exact ⟨rfl, rfl⟩
  tb_rel
  have e := par_len a n
  rw [List.length_map] at e
  rw [List.length_map, e]
theorem table_run (ce : List Cell) {a : List Int} {n : Int} (hp : ∀ x ∈ a, 0 < x) (hl : a.length ≤ 100000) (h0 : 0 ≤ n) (hn : n ≤ 90000) : m__law_table [lI a, .int n] ce = .nl ((Tab a n.toNat).map .int) ce := by
  refine run_eq ?_
  unfold D__law_table
  tb_rel
  rw [rngD_I]
  refine comp_ints (fun x => pr a x) .int (by rw [rngI_len]; omega) (fun d hd => ?_) ?_
  · wp_walk using is_in_run _ _ hp hl
    refine ⟨rfl, fun _ => ?_, fun _ => rfl⟩
    tb_rel
    exact ⟨rfl, rfl⟩
  rw [show (n + 1 - 1).toNat = n.toNat by omega]
  exact ret_nl tail_id (lowL_ints _ _) rfl
end Lw

set_option maxRecDepth 100000
set_option maxHeartbeats 4000000
set_option exponentiation.threshold 600
namespace K27
open PySem PySem.Spec PyProof.Rows L2 Dv Pg Lw
theorem cut_any (l : List Int) (lo hi : Option Int) : ∃ m : List Int, Dv.cutD (l.map D.int) lo hi = m.map D.int ∧ m.Sublist l := by
  refine ⟨(l.drop (HT.sIx (l.map D.int).length 0 lo)).take (HT.sIx (l.map D.int).length (l.map D.int).length hi - HT.sIx (l.map D.int).length 0 lo), ?_, (List.take_sublist _ _).trans (List.drop_sublist _ _)⟩
  unfold Dv.cutD
  rw [List.map_take, List.map_drop]
theorem tab_le (a : List Int) (n : Nat) : (Tab a n).length ≤ n := by
  unfold Tab
  have h := List.length_filter_le (pr a) (rngI 1 n)
  rw [rngI_len] at h
  exact h
theorem right_run {ce : List Cell} {V : Vs} {g : Vs → List Cell} {N : Nat} {a : List Int} [hv : VsC ce V g] (hV : VG N V) (hN : N + 100 < 2 ^ 60) (ha : Gt 6 a) :
    Fs (m__law_right [.rf 1, lI a] ce) fun Q => ∀ V', VG (N + 10) V' → Q (.ok (.bl true) (g V')) := by
  refine run_fs fun Q k => ?_
  obtain ⟨r, hr⟩ := hv.sh
  have ec := hv.eq
  rw [hr] at ec
  clear hv
  have k : ∀ V', VG (N + 10) V' → Q (.ok (.bl true) (VC V' ++ r)) := fun V' h1 => by
    rw [← hr]
    exact k V' h1
  clear hr
  subst ec
  have hl := ha.len
  unfold D__law_right
  tb_rel
  refine mkk (mk_form (ha.good (by decide))) ?_
  wp_walk using table_run _ ha.fm.pos (by omega) (by decide) (by decide)
  refine comp_invI (fun i acc ce' => ∃ (l : List Int) (V' : Vs), acc = l.map .int ∧ ce' = VC V' ++ r ∧ VG (N + i) V' ∧ l.length = i ∧ ∀ x ∈ l, 0 ≤ x ∧ x ≤ 300) ⟨[], V, rfl, rfl, hV, rfl, fun x hx => by cases hx⟩ (by decide) (fun i acc ce' h => ?_) (fun i d acc ce' hd h => ?_) (fun acc ce' h => ?_)
  · obtain ⟨l, V', rfl, -, -, h, -⟩ := h
    rw [List.length_map]
    omega
  · obtain ⟨l, V', rfl, rfl, hV', h1, h2⟩ := h
    obtain ⟨rfl, hi⟩ := rng_mem hd
    have hi : i < 4 := hi
    wp_walk using stem_run ‹_› (by omega) (by omega) (by exact bits_small (by omega) (by omega))
    rename_i z V2 z0 z1 hV2
    refine ⟨l ++ [z], V2, by rw [snoc_int], rfl, hV2.up (by omega), by simp; omega, fun y hy => ?_⟩
    rcases List.mem_append.mp hy with h | h
    · exact h2 y h
    · cases List.mem_singleton.mp h
      omega
  · obtain ⟨l, V', rfl, rfl, hV', h1, h2⟩ := h
    rw [rngD_length] at hV' h1
    tb_rel
    obtain ⟨p, ep, sp⟩ := cut_any (Tab a (300 : Int).toNat) none (some 6)
    obtain ⟨q, eq, sq⟩ := cut_any (Tab a (300 : Int).toNat) (some (-3)) none
    have lt := tab_le a 300
    have lp : p.length ≤ 300 := Nat.le_trans sp.length_le lt
    have lq : q.length ≤ 300 := Nat.le_trans sq.length_le lt
    have hp : ∀ x ∈ p ++ q, 1 ≤ x ∧ x ≤ 300 := fun x hx => by
      rcases List.mem_append.mp hx with hx | hx
      · exact (tb_mem.mp (sp.subset hx)).1
      · exact (tb_mem.mp (sq.subset hx)).1
    have lpq : (p ++ q).length ≤ 600 := by
      rw [List.length_append]
      omega
    rw [ep, eq]
    refine q_addL (by rw [List.length_map, List.length_map]; omega) ?_
    rw [← List.map_append]
    generalize p ++ q = pq at *
    have hl2 : ∀ x ∈ [0, 1, 300] ++ l, 0 ≤ x ∧ x ≤ 300 := fun x hx => by
      rcases List.mem_append.mp hx with hx | hx
      · exact (by decide : ∀ x ∈ ([0, 1, 300] : List Int), 0 ≤ x ∧ x ≤ 300) x hx
      · exact h2 x hx
    have e3 : [D.int 0, D.int 1, D.int 300] ++ l.map D.int = ([0, 1, 300] ++ l).map D.int := by rw [List.map_append] <;> rfl
    have l3 : ([0, 1, 300] ++ l).length = 7 := by rw [List.length_append, h1] <;> rfl
    rw [e3]
    generalize [0, 1, 300] ++ l = L at *
    refine for_inv (fun i s => ∃ (L' : List Int) (o6 : Option D), s = (⟨[some (.rf 1), some (lI a), some (fo a), some (lI (Tab a 300)), some (lI L'), none, o6, none, none], VC V' ++ r, (VC V ++ r).length⟩ : S) ∧ (∀ x ∈ L', 0 ≤ x ∧ x ≤ 300) ∧ L'.length = 7 + 2 * i) ⟨L, none, rfl, hl2, l3⟩ ?_ ?_
    · rintro i d s hd ⟨L', o6, rfl, hL', lL'⟩
      rw [List.getElem?_map] at hd
      cases hx : pq[i]? with
      | none =>
        rw [hx] at hd
        cases hd
      | some x =>
        rw [hx] at hd
        cases hd
        have hi := (List.getElem?_eq_some_iff.mp hx).1
        have hx2 := hp x (List.mem_of_getElem? hx)
        tb_rel
        have e : L'.map D.int ++ [D.int x, D.int (x - 1)] = (L' ++ [x, x - 1]).map D.int := by rw [List.map_append] <;> rfl
        rw [e]
        refine ⟨_, _, rfl, fun y hy => ?_, by simp; omega⟩
        rcases List.mem_append.mp hy with hy | hy
        · exact hL' y hy
        · rcases List.mem_cons.mp hy with rfl | hy
          · omega
          · cases List.mem_singleton.mp hy
            omega
    · rintro s ⟨L', o6, rfl, hL', lL'⟩
      rw [List.length_map] at lL'
      tb_rel
      refine for_inv (fun i s => ∃ (o7 o8 : Option D), s = (⟨[some (.rf 1), some (lI a), some (fo a), some (lI (Tab a 300)), some (lI L'), none, o6, o7, o8], VC V' ++ r, (VC V ++ r).length⟩ : S)) ⟨none, none, rfl⟩ ?_ ?_
      · rintro i d s hd ⟨o7, o8, rfl⟩
        rw [List.getElem?_map] at hd
        cases hx : L'[i]? with
        | none =>
          rw [hx] at hd
          cases hd
        | some x =>
          rw [hx] at hd
          cases hd
          have hx2 := hL' x (List.mem_of_getElem? hx)
          tb_rel
          refine comp_ints (fun y => decide (y ≤ x)) .int (by omega) (fun d hd => ?_) ?_
          · tb_rel
            refine ⟨rfl, fun _ => ?_, fun _ => rfl⟩
            tb_rel
            exact ⟨rfl, rfl⟩
          have e : (Tab a 300).filter (fun y => decide (y ≤ x)) = Tab a x.toNat := by
            have h := tb_upto a (m := x.toNat) (n := 300) (by omega)
            rw [show ((x.toNat : Nat) : Int) = x by omega] at h
            exact h
          rw [e]
          wp_walk using count_up_to_run _ (by omega) (fun d hd => ⟨ha.fm.pos d hd, by have := ha.lt d hd; omega⟩) hx2.1 (by exact Nat.lt_trans (bits_small hx2.1 (by omega)) (by decide))
          have e2 : (((Tab a x.toNat).map D.int).length : Int) = cnt a x.toNat := by rw [List.length_map, tb_len]
          rw [e2]
          have b2 : (cnt a x.toNat).natAbs < 2 ^ 10 := by
            rw [← tb_len]
            have := tab_le a x.toNat
            omega
          generalize cnt a x.toNat = c at *
          have hr := rp_two (rp_int b2 (by decide)) (rp_int b2 (by decide))
          refine q_reprR (p := .list [.int c, .int c]) rfl hr (by decide) (by decide) ?_
          tb_rel
          refine q_reprR (p := .list [.int c, .int c]) rfl hr (by decide) (by decide) ?_
          tb_rel
          refine q_neS hr.str ?_
          tb_rel
          exact ⟨_, _, rfl⟩
      · rintro s ⟨o7, o8, rfl⟩
        wp_walk using form_divisors_run _ _
        rw [decide_eq_true rfl]
        exact ret_ok (ce' := VC V' ++ r) vs_tail0 rfl (k V' (hV'.up (Nat.add_le_add_left (by decide) N)))
theorem law_true {ns : List Int} (hl : ns.length ≤ 63) : m_law [.ro (ns.map D.int)] [] = .ok (.bl true) [] := by
  refine run_eq ?_
  unfold D_law
  wp_walk using vase_run hl
  rename_i V hV
  have e0 : [Cell.lst (V.l.map D.int)] ++ [Cell.lst [D.rf 0, .int V.b, .int V.c]] = VC V ++ [] := rfl
  have e1 : [Cell.lst (V.l.map D.int)].length = 1 := rfl
  rw [e0, e1, List.length_map]
  have hm : 0 ≤ (if (4 : Int) < (ns.length : Int) then (4 : Int) else (ns.length : Int)) ∧ (if (4 : Int) < (ns.length : Int) then (4 : Int) else (ns.length : Int)) ≤ 4 := by split <;> omega
  generalize (if (4 : Int) < (ns.length : Int) then (4 : Int) else (ns.length : Int)) = mm at *
  refine q_mul (by have := bits_small (i := 2) (by decide) (by decide); have := bits_small hm.1 (by omega); omega) ?_
  tb_rel
  refine for_inv (fun i s => ∃ (V' : Vs) (o2 : Option D), s = (⟨[some (.ro (ns.map .int)), some (.rf 1), o2, none, none], VC V' ++ [], 0⟩ : S) ∧ VG (200 * i) V') ⟨V, none, rfl, hV⟩ ?_ ?_
  · rintro i d s hd ⟨V', o2, rfl, hV'⟩
    obtain ⟨rfl, hi⟩ := rng_mem hd
    wp_walk using stem_run ‹_› (by omega) (by omega) (by exact bits_small (by omega) (by omega))
    rename_i z V2 z0 z1 hV2
    refine q_ixP (fun d => ∃ w : Int, d = .int w ∧ 1 ≤ w ∧ w ≤ 60) rfl z0 (show z < 2 from z1) (all2 ⟨_, rfl, by decide, by decide⟩ ⟨_, rfl, by decide, by decide⟩) ?_
    rintro _ ⟨w, rfl, w1, w2⟩
    wp_walk using drawn_run ‹_› (by omega) (by decide) (by decide) w1 (by omega)
    rename_i E V3 hV3 asc hE lE
    wp_walk using right_run (a := E) ‹_› (by omega) ⟨⟨fun x hx => by have := hE x hx; omega, asc⟩, fun x hx => by have := hE x hx; omega, by omega⟩
    exact ⟨_, _, rfl, VG.up ‹_› (by omega)⟩
  · rintro s ⟨V', o2, rfl, -⟩
    tb_rel
    refine mkk (mk_form (a := [4, 100, 400]) (by decide)) ?_
    tb_rel
    have e4 : [D.int 0, D.int 3, D.int 4, D.int 400, D.int 2000] = ([0, 3, 4, 400, 2000] : List Int).map D.int := rfl
    rw [e4]
    refine comp_intsA (fun x => .int (cnt [4, 100, 400] x.toNat)) (by decide) (fun x hx => ?_) ?_
    · have hx2 : 0 ≤ x ∧ x ≤ 2000 := (by decide : ∀ x ∈ ([0, 3, 4, 400, 2000] : List Int), 0 ≤ x ∧ x ≤ 2000) x hx
      wp_walk using count_up_to_run _ (a := [4, 100, 400]) (by decide) (by decide) hx2.1 (by exact Nat.lt_trans (bits_small hx2.1 (by omega)) (by decide))
      exact ⟨rfl, rfl⟩
    have e5 : ([0, 3, 4, 400, 2000] : List Int).map (fun x => D.int (cnt [4, 100, 400] x.toNat)) = ([0, 0, 1, 97, 485] : List Int).map D.int := by
      have : ([0, 3, 4, 400, 2000] : List Int).map (fun x => cnt [4, 100, 400] x.toNat) = [0, 0, 1, 97, 485] := by decide +kernel
      rw [← this, List.map_map] <;> rfl
    rw [e5]
    have e6 : [D.int 0, D.int 0, D.int 1, D.int 97, D.int 485] = ([0, 0, 1, 97, 485] : List Int).map D.int := rfl
    tb_rel
    rw [e6]
    refine q_eqL ?_
    rw [decide_eq_true rfl]
    tb_rel
    exact ret_ok (ce' := []) (tail_own (ce := []) (own := VC V' ++ [])) rfl rfl
end K27

end
set_option maxRecDepth 100000
set_option maxHeartbeats 4000000
/-! the terms of rules of K27, printed by gen2.py -/
namespace K27
open PySem PySem.Spec PyProof.Rows L2 Dv Pg Lw
def top (i : Nat) : Stmt := PySem.Challenge.pw_leaprules_k27_counts_by_walking.main.body.getD i (.Pass ⟨0, 0, 0, 0⟩)
abbrev s_is_integer : Stmt := top 11
abbrev s_is_number : Stmt := top 12
abbrev s_check_from : Stmt := top 13
abbrev s_is_divisor : Stmt := top 15
abbrev s_are_divisors : Stmt := top 16
abbrev s_form_init : Stmt := inClass (top 24) 0
abbrev s_form_divisors : Stmt := inClass (top 24) 1
abbrev s_form_len : Stmt := inClass (top 24) 3
abbrev s_count_up_to : Stmt := top 27
abbrev s_weights_of : Stmt := top 28
abbrev s_counted : Stmt := top 29
abbrev s__law_vase : Stmt := top 31
abbrev s__law_stem : Stmt := top 32
abbrev s__law_drawn : Stmt := top 33
abbrev s__law_is_in : Stmt := top 34
abbrev s__law_table : Stmt := top 35
abbrev s__law_right : Stmt := top 36
abbrev s_law : Stmt := top 37
structure Adr where
  f_is_integer : Addr
  d_is_integer : FuncData
  f_is_number : Addr
  d_is_number : FuncData
  f_check_from : Addr
  d_check_from : FuncData
  f_is_divisor : Addr
  d_is_divisor : FuncData
  f_are_divisors : Addr
  d_are_divisors : FuncData
  f_form_init : Addr
  d_form_init : FuncData
  f_form_divisors : Addr
  d_form_divisors : FuncData
  p_form_divisors : Addr
  f_form_len : Addr
  d_form_len : FuncData
  f_count_up_to : Addr
  d_count_up_to : FuncData
  f_weights_of : Addr
  d_weights_of : FuncData
  f_counted : Addr
  d_counted : FuncData
  f__law_vase : Addr
  d__law_vase : FuncData
  f__law_stem : Addr
  d__law_stem : FuncData
  f__law_drawn : Addr
  d__law_drawn : FuncData
  f__law_is_in : Addr
  d__law_is_in : FuncData
  f__law_table : Addr
  d__law_table : FuncData
  f__law_right : Addr
  d__law_right : FuncData
  f_law : Addr
  d_law : FuncData
structure Txt (a : Adr) (K : PySem.W.Frag) (mg : Str → Option Value) (cl : Cl) : Prop where
  z_abs : mg "abs" = none
  z_all : mg "all" = none
  z_bool : mg "bool" = none
  z_int : mg "int" = none
  z_isinstance : mg "isinstance" = none
  z_len : mg "len" = none
  z_list : mg "list" = none
  z_max : mg "max" = none
  z_min : mg "min" = none
  z_range : mg "range" = none
  z_repr : mg "repr" = none
  z_set : mg "set" = none
  z_sorted : mg "sorted" = none
  z_sum : mg "sum" = none
  z_zip : mg "zip" = none
  g_MOST_DIVISORS : ∃ u, mg "MOST_DIVISORS" = some u ∧ RelV (.int 200) u
  g_DIVISOR_LIMIT : ∃ u, mg "DIVISOR_LIMIT" = some u ∧ RelV (.int 100000000000000000000) u
  g_MOST_COUNTED : ∃ u, mg "MOST_COUNTED" = some u ∧ RelV (.int 12) u
  g_lcm : mg "lcm" = some (.builtin "math.lcm")
  mg_Form : mg "Form" = some (.ref (cl 0))
  cls_Form : Cls K (cl 0)
  na_Form__held : NoAttr K (cl 0) "_held"
  mg_InvalidDivisors : mg "InvalidDivisors" = some (.ref (cl 11))
  xc_InvalidDivisors : PySem.W.excIn K (cl 11) [.type "ValueError", .type "Exception", .type "BaseException", .type "object"] "ValueError.__new__" = true
  kc_InvalidDivisors : PySem.W.keepIn K (.ref (cl 11)) = true
  rb_InvalidDivisors : PySem.W.subIn K (.ref (cl 11)) (.type "BaseException") = some true
  rt_InvalidDivisors : PySem.W.typeIn K (.ref (cl 11)) = some (.type "type")
  mg_InvalidNumber : mg "InvalidNumber" = some (.ref (cl 14))
  xc_InvalidNumber : PySem.W.excIn K (cl 14) [.type "ValueError", .type "Exception", .type "BaseException", .type "object"] "ValueError.__new__" = true
  kc_InvalidNumber : PySem.W.keepIn K (.ref (cl 14)) = true
  rb_InvalidNumber : PySem.W.subIn K (.ref (cl 14)) (.type "BaseException") = some true
  rt_InvalidNumber : PySem.W.typeIn K (.ref (cl 14)) = some (.type "type")
  mg_TooLarge : mg "TooLarge" = some (.ref (cl 16))
  xc_TooLarge : PySem.W.excIn K (cl 16) [.type "ValueError", .type "Exception", .type "BaseException", .type "object"] "ValueError.__new__" = true
  kc_TooLarge : PySem.W.keepIn K (.ref (cl 16)) = true
  rb_TooLarge : PySem.W.subIn K (.ref (cl 16)) (.type "BaseException") = some true
  rt_TooLarge : PySem.W.typeIn K (.ref (cl 16)) = some (.type "type")
  mg_is_integer : mg "is_integer" = some (.ref a.f_is_integer)
  fn_is_integer : L2.Fun K "is_integer" "is_integer" s_is_integer a.f_is_integer a.d_is_integer
  mg_is_number : mg "is_number" = some (.ref a.f_is_number)
  fn_is_number : L2.Fun K "is_number" "is_number" s_is_number a.f_is_number a.d_is_number
  mg_check_from : mg "check_from" = some (.ref a.f_check_from)
  fn_check_from : L2.Fun K "check_from" "check_from" s_check_from a.f_check_from a.d_check_from
  mg_is_divisor : mg "is_divisor" = some (.ref a.f_is_divisor)
  fn_is_divisor : L2.Fun K "is_divisor" "is_divisor" s_is_divisor a.f_is_divisor a.d_is_divisor
  mg_are_divisors : mg "are_divisors" = some (.ref a.f_are_divisors)
  fn_are_divisors : L2.Fun K "are_divisors" "are_divisors" s_are_divisors a.f_are_divisors a.d_are_divisors
  mk_Form : Mk K (cl 0) a.f_form_init
  fn_form_init : L2.Fun K "__init__" "Form.__init__" s_form_init a.f_form_init a.d_form_init
  prop_form_divisors : PropOf K (cl 0) "divisors" a.p_form_divisors a.f_form_divisors
  fn_form_divisors : L2.Fun K "divisors" "Form.divisors" s_form_divisors a.f_form_divisors a.d_form_divisors
  fi_form_len : PySem.W.findIn K (.ref (cl 0)) "__len__" = some (some (.ref a.f_form_len))
  is_form_len : PySem.W.isFn K (.ref a.f_form_len) = true
  fn_form_len : L2.Fun K "__len__" "Form.__len__" s_form_len a.f_form_len a.d_form_len
  mg_count_up_to : mg "count_up_to" = some (.ref a.f_count_up_to)
  fn_count_up_to : L2.Fun K "count_up_to" "count_up_to" s_count_up_to a.f_count_up_to a.d_count_up_to
  mg_weights_of : mg "weights_of" = some (.ref a.f_weights_of)
  fn_weights_of : L2.Fun K "weights_of" "weights_of" s_weights_of a.f_weights_of a.d_weights_of
  mg_counted : mg "counted" = some (.ref a.f_counted)
  fn_counted : L2.Fun K "counted" "counted" s_counted a.f_counted a.d_counted
  mg__law_vase : mg "_law_vase" = some (.ref a.f__law_vase)
  fn__law_vase : L2.Fun K "_law_vase" "_law_vase" s__law_vase a.f__law_vase a.d__law_vase
  mg__law_stem : mg "_law_stem" = some (.ref a.f__law_stem)
  fn__law_stem : L2.Fun K "_law_stem" "_law_stem" s__law_stem a.f__law_stem a.d__law_stem
  mg__law_drawn : mg "_law_drawn" = some (.ref a.f__law_drawn)
  fn__law_drawn : L2.Fun K "_law_drawn" "_law_drawn" s__law_drawn a.f__law_drawn a.d__law_drawn
  mg__law_is_in : mg "_law_is_in" = some (.ref a.f__law_is_in)
  fn__law_is_in : L2.Fun K "_law_is_in" "_law_is_in" s__law_is_in a.f__law_is_in a.d__law_is_in
  mg__law_table : mg "_law_table" = some (.ref a.f__law_table)
  fn__law_table : L2.Fun K "_law_table" "_law_table" s__law_table a.f__law_table a.d__law_table
  mg__law_right : mg "_law_right" = some (.ref a.f__law_right)
  fn__law_right : L2.Fun K "_law_right" "_law_right" s__law_right a.f__law_right a.d__law_right
  mg_law : mg "law" = some (.ref a.f_law)
  fn_law : L2.Fun K "law" "law" s_law a.f_law a.d_law
section
variable {P : Program} {w : World} {a : Adr} {K : PySem.W.Frag} {mg : Str → Option Value} {base : Heap} {cl : Cl}
theorem Txt.bd_is_integer (T : Txt a K mg cl) : Binds K a.d_is_integer ["thing"] [] := T.fn_is_integer.binds fun _ _ _ _ _ _ us hl => match us, hl with | [_], _ => rfl
theorem Txt.bd_is_number (T : Txt a K mg cl) : Binds K a.d_is_number ["thing"] [] := T.fn_is_number.binds fun _ _ _ _ _ _ us hl => match us, hl with | [_], _ => rfl
theorem Txt.bd_check_from (T : Txt a K mg cl) : Binds K a.d_check_from ["number", "least"] [] := T.fn_check_from.binds fun _ _ _ _ _ _ us hl => match us, hl with | [_, _], _ => rfl
theorem Txt.bd_is_divisor (T : Txt a K mg cl) : Binds K a.d_is_divisor ["thing"] [] := T.fn_is_divisor.binds fun _ _ _ _ _ _ us hl => match us, hl with | [_], _ => rfl
theorem Txt.bd_are_divisors (T : Txt a K mg cl) : Binds K a.d_are_divisors ["thing"] [] := T.fn_are_divisors.binds fun _ _ _ _ _ _ us hl => match us, hl with | [_], _ => rfl
theorem Txt.bd_form_init (T : Txt a K mg cl) : Binds K a.d_form_init ["self", "divisors"] [] := T.fn_form_init.binds fun _ _ _ _ _ _ us hl => match us, hl with | [_, _], _ => rfl
theorem Txt.bd_form_divisors (T : Txt a K mg cl) : Binds K a.d_form_divisors ["self"] [] := T.fn_form_divisors.binds fun _ _ _ _ _ _ us hl => match us, hl with | [_], _ => rfl
theorem Txt.bd_form_len (T : Txt a K mg cl) : Binds K a.d_form_len ["self"] [] := T.fn_form_len.binds fun _ _ _ _ _ _ us hl => match us, hl with | [_], _ => rfl
theorem Txt.bd_count_up_to (T : Txt a K mg cl) : Binds K a.d_count_up_to ["form", "limit"] [] := T.fn_count_up_to.binds fun _ _ _ _ _ _ us hl => match us, hl with | [_, _], _ => rfl
theorem Txt.bd_weights_of (T : Txt a K mg cl) : Binds K a.d_weights_of ["form"] [] := T.fn_weights_of.binds fun _ _ _ _ _ _ us hl => match us, hl with | [_], _ => rfl
theorem Txt.bd_counted (T : Txt a K mg cl) : Binds K a.d_counted ["weights", "limit"] [] := T.fn_counted.binds fun _ _ _ _ _ _ us hl => match us, hl with | [_, _], _ => rfl
theorem Txt.bd__law_vase (T : Txt a K mg cl) : Binds K a.d__law_vase ["script"] [] := T.fn__law_vase.binds fun _ _ _ _ _ _ us hl => match us, hl with | [_], _ => rfl
theorem Txt.bd__law_stem (T : Txt a K mg cl) : Binds K a.d__law_stem ["vase", "many"] [] := T.fn__law_stem.binds fun _ _ _ _ _ _ us hl => match us, hl with | [_, _], _ => rfl
theorem Txt.bd__law_drawn (T : Txt a K mg cl) : Binds K a.d__law_drawn ["vase", "most", "wide"] [] := T.fn__law_drawn.binds fun _ _ _ _ _ _ us hl => match us, hl with | [_, _, _], _ => rfl
theorem Txt.bd__law_is_in (T : Txt a K mg cl) : Binds K a.d__law_is_in ["some", "value"] [] := T.fn__law_is_in.binds fun _ _ _ _ _ _ us hl => match us, hl with | [_, _], _ => rfl
theorem Txt.bd__law_table (T : Txt a K mg cl) : Binds K a.d__law_table ["some", "top"] [] := T.fn__law_table.binds fun _ _ _ _ _ _ us hl => match us, hl with | [_, _], _ => rfl
theorem Txt.bd__law_right (T : Txt a K mg cl) : Binds K a.d__law_right ["vase", "some"] [] := T.fn__law_right.binds fun _ _ _ _ _ _ us hl => match us, hl with | [_, _], _ => rfl
theorem Txt.bd_law (T : Txt a K mg cl) : Binds K a.d_law ["script"] [] := T.fn_law.binds fun _ _ _ _ _ _ us hl => match us, hl with | [_], _ => rfl
theorem Txt.kw_count_up_to_limit_form (T : Txt a K mg cl) : KwB a.d_count_up_to ["form", "limit"] 0 ["limit", "form"] [1, 0] := KwB.of T.fn_count_up_to fun _ _ _ _ _ _ us ws h1 h2 => match us, h1, ws, h2 with | [], _, [_, _], _ => rfl
theorem sc_is_integer : FnScope ["thing"] ["thing"] (defScope s_is_integer) := ⟨rfl, rfl, rfl, by decide +kernel, rfl, by decide +kernel, by decide +kernel⟩
theorem ok_is_integer (T : Txt a K mg cl)  : FnOk P w K mg base (L2.CX P w) 1 a.f_is_integer a.d_is_integer ["thing"] (spD K cl 1 m_is_integer) := by
  refine def_ok (b := D_is_integer) T.fn_is_integer sc_is_integer rfl (by decide) (does_run _ _) fun cdv A outer s H E e hr tk => ?_
  have nd := sc_is_integer.nd
  exact (s_one (s_ret (d_and (d_isi kit_int (fun c h => by cases h) (pe_bltn (v := .ty "int") (by rfl) T.z_int (by decide +kernel) rfl) (.ty _) (d_var (pv 0)) (fun t => pe_callB call_isi (by rfl) T.z_isinstance (by decide +kernel))) (d_one (d_not (d_isi kit_bl (fun c h => by cases h) (pe_bltn (v := .ty "bool") (by rfl) T.z_bool (by decide +kernel) rfl) (.ty _) (d_var (pv 0)) (fun t => pe_callB call_isi (by rfl) T.z_isinstance (by decide +kernel))))))))
theorem sc_is_number : FnScope ["thing"] ["thing"] (defScope s_is_number) := ⟨rfl, rfl, rfl, by decide +kernel, rfl, by decide +kernel, by decide +kernel⟩
theorem ok_is_number (T : Txt a K mg cl) (G_is_integer : FnOk P w K mg base (L2.CX P w) 1 a.f_is_integer a.d_is_integer ["thing"] (spD K cl 1 m_is_integer)) : FnOk P w K mg base (L2.CX P w) 2 a.f_is_number a.d_is_number ["thing"] (spD K cl 1 m_is_number) := by
  refine def_ok (b := D_is_number) T.fn_is_number sc_is_number rfl (by decide) (does_run _ _) fun cdv A outer s H E e hr tk => ?_
  have nd := sc_is_number.nd
  exact (s_one (s_ret (d_and (d_fz (d_call G_is_integer (hr.mono (by decide)) (by rfl) T.mg_is_integer T.fn_is_integer.kp (T.bd_is_integer) tk (d_acons (d_var (pv 0)) d_anil))) (d_one (e_ge (d_var (pv 0)) d_int)))))
theorem sc_check_from : FnScope ["number", "least"] ["number", "least"] (defScope s_check_from) := ⟨rfl, rfl, rfl, by decide +kernel, rfl, by decide +kernel, by decide +kernel⟩
theorem ok_check_from (T : Txt a K mg cl) (G_is_integer : FnOk P w K mg base (L2.CX P w) 1 a.f_is_integer a.d_is_integer ["thing"] (spD K cl 1 m_is_integer)) : FnOk P w K mg base (L2.CX P w) 2 a.f_check_from a.d_check_from ["number", "least"] (spD K cl 2 m_check_from) := by
  refine def_ok (b := D_check_from) T.fn_check_from sc_check_from rfl (by decide) (does_run _ _) fun cdv A outer s H E e hr tk => ?_
  have nd := sc_check_from.nd
  exact (s_one (s_if (t_pw (t_or (t_not (t_val (d_fz (d_call G_is_integer (hr.mono (by decide)) (by rfl) T.mg_is_integer T.fn_is_integer.kp (T.bd_is_integer) tk (d_acons (d_var (pv 0)) d_anil))))) (t_or1 (c_lt (d_var (pv 0)) (d_var (pv 1)))))) (s_one (s_raise (by rfl) tk (pmk_own PySem.F.excBase_ValueError T.xc_InvalidNumber T.mg_InvalidNumber T.kc_InvalidNumber (raises_own T.rb_InvalidNumber T.rt_InvalidNumber) (by rfl)))) s_nil))
theorem sc_is_divisor : FnScope ["thing"] ["thing"] (defScope s_is_divisor) := ⟨rfl, rfl, rfl, by decide +kernel, rfl, by decide +kernel, by decide +kernel⟩
theorem ok_is_divisor (T : Txt a K mg cl) (G_is_number : FnOk P w K mg base (L2.CX P w) 2 a.f_is_number a.d_is_number ["thing"] (spD K cl 1 m_is_number)) : FnOk P w K mg base (L2.CX P w) 3 a.f_is_divisor a.d_is_divisor ["thing"] (spD K cl 1 m_is_divisor) := by
  refine def_ok (b := D_is_divisor) T.fn_is_divisor sc_is_divisor rfl (by decide) (does_run _ _) fun cdv A outer s H E e hr tk => ?_
  have nd := sc_is_divisor.nd
  exact (s_one (s_ret (d_and (d_fz (d_call G_is_number (hr.mono (by decide)) (by rfl) T.mg_is_number T.fn_is_number.kp (T.bd_is_number) tk (d_acons (d_var (pv 0)) d_anil))) (d_one (e_lt (d_var (pv 0)) (d_c (e_gc (by rfl) T.g_DIVISOR_LIMIT) fun _ _ => .int _))))))
theorem sc_are_divisors : FnScope ["thing", "divisor", "low", "high"] ["thing"] (defScope s_are_divisors) := ⟨rfl, rfl, rfl, by decide +kernel, rfl, by decide +kernel, by decide +kernel⟩
theorem ok_are_divisors (T : Txt a K mg cl) (G_is_divisor : FnOk P w K mg base (L2.CX P w) 3 a.f_is_divisor a.d_is_divisor ["thing"] (spD K cl 1 m_is_divisor)) : FnOk P w K mg base (L2.CX P w) 4 a.f_are_divisors a.d_are_divisors ["thing"] (spD K cl 1 m_are_divisors) := by
  refine def_ok (b := D_are_divisors) T.fn_are_divisors sc_are_divisors rfl (by decide) (does_run _ _) fun cdv A outer s H E e hr tk => ?_
  have nd := sc_are_divisors.nd
  exact (s_cons (s_if (t_pw (t_or (t_not (t_val (d_isi kit_lst (fun c h => by cases h) (pe_bltn (v := .ty "list") (by rfl) T.z_list (by decide +kernel) rfl) (.ty _) (d_var (pv 0)) (fun t => pe_callB call_isi (by rfl) T.z_isinstance (by decide +kernel))))) (t_or1 (c_gt (e_len (by rfl) T.z_len (d_acons (d_var (pv 0)) d_anil)) (d_c (e_gc (by rfl) T.g_MOST_DIVISORS) fun _ _ => .int _))))) (s_one (s_ret d_bl)) s_nil) (s_cons (s_if (t_not (t_val (e_all (by rfl) (by rfl) T.z_all (d_acons (d_fz (d_lcV (tc_name (by decide)) (pe_lc (own := [("divisor", 1)]) (by rfl) nd (pi_list (pv 0)) (blkOk_by (N := ["thing", "divisor", "low", "high"]) (sc := defScope s_are_divisors) (by decide +kernel)) (fun _ _ _ _ _ => (pg_name (i := 1) nd rfl (Or.inl rfl))) (fun _ _ _ _ _ => pts_yes) (fun _ _ _ _ _ => pe_ex fun e => (d_fz (d_call G_is_divisor (hr.mono (by decide)) (by rfl) T.mg_is_divisor T.fn_is_divisor.kp (T.bd_is_divisor) takesW0 (d_acons (d_var (pv 1)) d_anil))))))) d_anil)))) (s_one (s_ret d_bl)) s_nil) (s_one (s_ret (e_all (by rfl) (by rfl) T.z_all (d_acons (d_fz (d_lc ic_zipU (tc_tup (tcs_cons (tc_name (by decide)) (tcs_cons (tc_name (by decide)) tcs_nil)) rfl) (pe_lc (own := [("low", 2), ("high", 3)]) (by rfl) nd (pi_zip (by rfl) T.z_zip (d_acons (d_var (pv 0)) (d_acons (d_fz (d_slice (d_var (pv 0)) (p_some d_int) p_none)) d_anil))) (blkOk_by (N := ["thing", "divisor", "low", "high"]) (sc := defScope s_are_divisors) (by decide +kernel)) (fun _ _ _ _ _ => (pg_tup (by rfl) (pgs_cons (pg_name (i := 2) nd rfl (Or.inl rfl)) (pgs_cons (pg_name (i := 3) nd rfl (Or.inl rfl)) pgs_nil)))) (fun _ _ _ _ _ => pts_yes) (fun _ _ _ _ _ => pe_ex fun e => (e_lt (d_var (pv 2)) (d_var (pv 3))))))) d_anil))))))
theorem sc_form_init : FnScope ["self", "divisors"] ["self", "divisors"] (defScope s_form_init) := ⟨rfl, rfl, rfl, by decide +kernel, rfl, by decide +kernel, by decide +kernel⟩
theorem ok_form_init (T : Txt a K mg cl) (G_are_divisors : FnOk P w K mg base (L2.CX P w) 4 a.f_are_divisors a.d_are_divisors ["thing"] (spD K cl 1 m_are_divisors)) : FnOk P w K mg base (L2.CX P w) 5 a.f_form_init a.d_form_init ["self", "divisors"] (spD K cl 2 m_form_init) := by
  refine def_ok (b := D_form_init) T.fn_form_init sc_form_init rfl (by decide) (does_run _ _) fun cdv A outer s H E e hr tk => ?_
  have nd := sc_form_init.nd
  exact (s_cons (s_if (t_not (t_val (d_fz (d_call G_are_divisors (hr.mono (by decide)) (by rfl) T.mg_are_divisors T.fn_are_divisors.kp (T.bd_are_divisors) tk (d_acons (d_var (pv 1)) d_anil))))) (s_one (s_raise (by rfl) tk (pmk_own PySem.F.excBase_ValueError T.xc_InvalidDivisors T.mg_InvalidDivisors T.kc_InvalidDivisors (raises_own T.rb_InvalidDivisors T.rt_InvalidDivisors) (by rfl)))) s_nil) (s_one (s_fld T.cls_Form T.na_Form__held (ps_fld (d_var (pv 0)) (d_fz (e_list (by rfl) T.z_list (d_acons (d_var (pv 1)) d_anil))) (by rfl)))))
theorem sc_form_divisors : FnScope ["self"] ["self"] (defScope s_form_divisors) := ⟨rfl, rfl, rfl, by decide +kernel, rfl, by decide +kernel, by decide +kernel⟩
theorem ok_form_divisors (T : Txt a K mg cl)  : FnOk P w K mg base (L2.CX P w) 1 a.f_form_divisors a.d_form_divisors ["self"] (spD K cl 1 m_form_divisors) := by
  refine def_ok (b := D_form_divisors) T.fn_form_divisors sc_form_divisors rfl (by decide) (does_run _ _) fun cdv A outer s H E e hr tk => ?_
  have nd := sc_form_divisors.nd
  exact (s_one (s_ret (e_list (by rfl) T.z_list (d_acons (d_fld (d_var (pv 0)) T.cls_Form T.na_Form__held) d_anil))))
theorem sc_form_len : FnScope ["self"] ["self"] (defScope s_form_len) := ⟨rfl, rfl, rfl, by decide +kernel, rfl, by decide +kernel, by decide +kernel⟩
theorem ok_form_len (T : Txt a K mg cl)  : FnOk P w K mg base (L2.CX P w) 1 a.f_form_len a.d_form_len ["self"] (spD K cl 1 m_form_len) := by
  refine def_ok (b := D_form_len) T.fn_form_len sc_form_len rfl (by decide) (does_run _ _) fun cdv A outer s H E e hr tk => ?_
  have nd := sc_form_len.nd
  exact (s_one (s_ret (e_len (by rfl) T.z_len (d_acons (d_fld (d_var (pv 0)) T.cls_Form T.na_Form__held) d_anil))))
theorem sc_weights_of : FnScope ["form", "weights", "divisor", "joined", "multiple", "weight", "both"] ["form"] (defScope s_weights_of) := ⟨rfl, rfl, rfl, by decide +kernel, rfl, by decide +kernel, by decide +kernel⟩
theorem ok_weights_of (T : Txt a K mg cl) (G_form_len : FnOk P w K mg base (L2.CX P w) 1 a.f_form_len a.d_form_len ["self"] (spD K cl 1 m_form_len)) (G_form_divisors : FnOk P w K mg base (L2.CX P w) 1 a.f_form_divisors a.d_form_divisors ["self"] (spD K cl 1 m_form_divisors)) : FnOk P w K mg base (L2.CX P w) 3 a.f_weights_of a.d_weights_of ["form"] (spD K cl 1 m_weights_of) := by
  refine def_ok (b := D_weights_of) T.fn_weights_of sc_weights_of rfl (by decide) (does_run _ _) fun cdv A outer s H E e hr tk => ?_
  have nd := sc_weights_of.nd
  exact (s_cons (s_if (c_gt (e_lenO G_form_len (hr.mono (by decide)) (T.bd_form_len) tk T.fi_form_len T.is_form_len (by rfl) T.z_len (d_var (pv 0))) (d_c (e_gc (by rfl) T.g_MOST_COUNTED) fun _ _ => .int _)) (s_one (s_raise (by rfl) tk (pmk_own PySem.F.excBase_ValueError T.xc_TooLarge T.mg_TooLarge T.kc_TooLarge (raises_own T.rb_TooLarge T.rt_TooLarge) (by rfl)))) s_nil) (s_cons (s_set (ps_set (i := 1) nd rfl (Or.inr rfl) d_newd)) (s_cons (s_for it_list td_name (ps_for (passes_of rfl) (by rfl) (pi_list (d_prop G_form_divisors (hr.mono (by decide)) (T.bd_form_divisors) T.cls_Form T.prop_form_divisors (d_var (pv 0)))) (pg_name (i := 2) nd rfl (Or.inl rfl)) (s_cons (s_lock fun e => (s_set (ps_w (ps_setDc (i := 3) (own := [("multiple", 4)]) nd rfl rfl (sw_trueD rfl rfl rfl (by decide +kernel)) (by rfl) (pi_keys (pv 1)) (blkOk_by (N := ["form", "weights", "divisor", "joined", "multiple", "weight", "both"]) (sc := defScope s_weights_of) (by decide +kernel)) (fun _ _ _ _ _ => (pg_name (i := 4) nd rfl (Or.inl rfl))) (fun _ _ _ _ _ => pts_yes) (fun _ _ _ _ _ => pe_ex fun e => (d_var (pv 4))) (fun _ _ _ _ _ => pe_ex fun e => (d_suba (pe_dget (hu_of hr) (d_var (pv 1)) (d_var (pv 4)) (fun _ _ => by rfl))))) fun _ _ _ q => rd_dcomp ic_keysL (tc_name (by decide)) q))) (s_cons (s_putd (ps_dput (hu_of hr) (d_var (pv 3)) (d_var (pv 2)) (e_add (d_getd (pe_dget2 (hu_of hr) (d_var (pv 3)) (d_var (pv 2)) d_int ⟨by rfl, by rfl, by rfl, by rfl⟩)) d_int) (by rfl))) (s_cons (s_lock fun e => (s_for it_itemsL (td_tup (tds_cons td_name (tds_cons td_name tds_nil)) rfl) (ps_for (passes_of rfl) (by rfl) (pi_items (pv 1)) (pg_tup (by rfl) (pgs_cons (pg_name (i := 4) nd rfl (Or.inl rfl)) (pgs_cons (pg_name (i := 5) nd rfl (Or.inl rfl)) pgs_nil))) (s_cons (s_set (ps_set (i := 6) nd rfl (Or.inl rfl) (e_lcm (by rfl) T.g_lcm (d_acons (d_var (pv 4)) (d_acons (d_var (pv 2)) d_anil))))) (s_one (s_putd (ps_dput (hu_of hr) (d_var (pv 3)) (d_var (pv 6)) (e_sub (d_getd (pe_dget2 (hu_of hr) (d_var (pv 3)) (d_var (pv 6)) d_int ⟨by rfl, by rfl, by rfl, by rfl⟩)) (e_mul d_int (d_var (pv 5)))) (by rfl)))))))) (s_one (s_set (ps_set (i := 1) nd rfl (Or.inr rfl) (d_var (pv 3)))))))))) (s_one (s_ret (d_var (pv 1)))))))
theorem sc_counted : FnScope ["weights", "limit", "multiple"] ["weights", "limit"] (defScope s_counted) := ⟨rfl, rfl, rfl, by decide +kernel, rfl, by decide +kernel, by decide +kernel⟩
theorem ok_counted (T : Txt a K mg cl)  : FnOk P w K mg base (L2.CX P w) 1 a.f_counted a.d_counted ["weights", "limit"] (spD K cl 2 m_counted) := by
  refine def_ok (b := D_counted) T.fn_counted sc_counted rfl (by decide) (does_run _ _) fun cdv A outer s H E e hr tk => ?_
  have nd := sc_counted.nd
  exact (s_one (s_ret (e_sum (by rfl) (by rfl) T.z_sum (d_acons (d_fz (e_lock fun e => (d_lc ic_keysL (tc_name (by decide)) (pe_lc (own := [("multiple", 2)]) (by rfl) nd (pi_keys (pv 0)) (blkOk_by (N := ["weights", "limit", "multiple"]) (sc := defScope s_counted) (by decide +kernel)) (fun _ _ _ _ _ => (pg_name (i := 2) nd rfl (Or.inl rfl))) (fun _ _ _ _ _ => pts_yes) (fun _ _ _ _ _ => pe_ex fun e => (e_mul (d_suba (pe_dget (hu_of hr) (d_var (pv 0)) (d_var (pv 2)) (fun _ _ => by rfl))) (e_div (d_var (pv 1)) (d_var (pv 2))))))))) d_anil))))
theorem sc_count_up_to : FnScope ["form", "limit"] ["form", "limit"] (defScope s_count_up_to) := ⟨rfl, rfl, rfl, by decide +kernel, rfl, by decide +kernel, by decide +kernel⟩
theorem ok_count_up_to (T : Txt a K mg cl) (G_check_from : FnOk P w K mg base (L2.CX P w) 2 a.f_check_from a.d_check_from ["number", "least"] (spD K cl 2 m_check_from)) (G_weights_of : FnOk P w K mg base (L2.CX P w) 3 a.f_weights_of a.d_weights_of ["form"] (spD K cl 1 m_weights_of)) (G_counted : FnOk P w K mg base (L2.CX P w) 1 a.f_counted a.d_counted ["weights", "limit"] (spD K cl 2 m_counted)) : FnOk P w K mg base (L2.CX P w) 4 a.f_count_up_to a.d_count_up_to ["form", "limit"] (spD K cl 2 m_count_up_to) := by
  refine def_ok (b := D_count_up_to) T.fn_count_up_to sc_count_up_to rfl (by decide) (does_run _ _) fun cdv A outer s H E e hr tk => ?_
  have nd := sc_count_up_to.nd
  exact (s_cons (s_drop (ps_expr (d_call G_check_from (hr.mono (by decide)) (by rfl) T.mg_check_from T.fn_check_from.kp (T.bd_check_from) tk (d_acons (d_var (pv 1)) (d_acons d_int d_anil))))) (s_one (s_ret (d_call G_counted (hr.mono (by decide)) (by rfl) T.mg_counted T.fn_counted.kp (T.bd_counted) tk (d_acons (d_fz (d_call G_weights_of (hr.mono (by decide)) (by rfl) T.mg_weights_of T.fn_weights_of.kp (T.bd_weights_of) tk (d_acons (d_var (pv 0)) d_anil))) (d_acons (d_var (pv 1)) d_anil))))))
theorem sc__law_vase : FnScope ["script", "blend", "cell"] ["script"] (defScope s__law_vase) := ⟨rfl, rfl, rfl, by decide +kernel, rfl, by decide +kernel, by decide +kernel⟩
theorem ok__law_vase (T : Txt a K mg cl)  : FnOk P w K mg base (L2.CX P w) 1 a.f__law_vase a.d__law_vase ["script"] (spD K cl 1 m__law_vase) := by
  refine def_ok (b := D__law_vase) T.fn__law_vase sc__law_vase rfl (by decide) (does_run _ _) fun cdv A outer s H E e hr tk => ?_
  have nd := sc__law_vase.nd
  exact (s_cons (s_set (ps_set (i := 1) nd rfl (Or.inl rfl) (e_pow d_int d_int))) (s_cons (s_for it_list td_name (ps_for (passes_of rfl) (by rfl) (pi_list (d_slice (d_var (pv 0)) p_none (p_some d_int))) (pg_name (i := 2) nd rfl (Or.inl rfl)) (s_one (s_set (ps_set (i := 1) nd rfl (Or.inl rfl) (e_mod (e_add (e_mul (d_var (pv 1)) d_int) (d_var (pv 2))) d_int)))))) (s_one (s_ret (e_lst (d_acons (d_ce (d_lc ic_list (tc_name (by decide)) (pe_lc (own := [("cell", 2)]) (by rfl) nd (pi_list (d_slice (d_var (pv 0)) p_none (p_some d_int))) (blkOk_by (N := ["script", "blend", "cell"]) (sc := defScope s__law_vase) (by decide +kernel)) (fun _ _ _ _ _ => (pg_name (i := 2) nd rfl (Or.inl rfl))) (fun _ _ _ _ _ => (pts_one (pt_ex fun e => (c_ge (e_abs (by rfl) T.z_abs (d_acons (d_var (pv 2)) d_anil)) (e_pow d_int d_int))))) (fun _ _ _ _ _ => pe_ex fun e => (e_abs (by rfl) T.z_abs (d_acons (d_var (pv 2)) d_anil)))))) (d_acons (d_var (pv 1)) (d_acons d_int d_anil))))))))
theorem sc__law_stem : FnScope ["vase", "many", "found", "blend"] ["vase", "many"] (defScope s__law_stem) := ⟨rfl, rfl, rfl, by decide +kernel, rfl, by decide +kernel, by decide +kernel⟩
theorem ok__law_stem (T : Txt a K mg cl)  : FnOk P w K mg base (L2.CX P w) 1 a.f__law_stem a.d__law_stem ["vase", "many"] (spD K cl 2 m__law_stem) := by
  refine def_ok (b := D__law_stem) T.fn__law_stem sc__law_stem rfl (by decide) (does_run _ _) fun cdv A outer s H E e hr tk => ?_
  have nd := sc__law_stem.nd
  exact (s_cons (s_while (passes_of rfl) (t_pw (t_and (c_ne (hu := hr.units) (d_ix (d_var (pv 0)) d_int) (d_fz (e_lst d_anil))) (t_and1 (c_lt (d_ix (d_ix (d_var (pv 0)) d_int) d_int) d_int)))) (s_one (s_drop (ps_expr (pe_w (pe_bm PySem.F.plainAttrs_list PySem.F.slot_list_pop PySem.F.type_list_pop mt_popAt (d_ix (d_var (pv 0)) d_int) (d_acons d_int d_anil)) fun _ _ _ q => rd_mt (fun _ _ _ _ _ _ _ => isL_ty) md_pop0 q))))) (s_cons (s_if (c_ne (hu := hr.units) (d_ix (d_var (pv 0)) d_int) (d_fz (e_lst d_anil))) (s_cons (s_set (ps_set (i := 2) nd rfl (Or.inl rfl) (e_mod (d_ix (d_ix (d_var (pv 0)) d_int) d_int) (d_var (pv 1))))) (s_cons (s_seti (ps_asg (e_div (d_ix (d_ix (d_var (pv 0)) d_int) d_int) (d_var (pv 1))) (pg_sub (d_ix (d_var (pv 0)) d_int) d_int set_list))) (s_one (s_ret (d_var (pv 2)))))) s_nil) (s_cons (s_seti (ps_asg (e_add (d_ix (d_var (pv 0)) d_int) d_int) (pg_sub (d_var (pv 0)) d_int set_list))) (s_cons (s_set (ps_set (i := 3) nd rfl (Or.inl rfl) (e_add (e_mul (d_ix (d_var (pv 0)) d_int) (d_ix (d_var (pv 0)) d_int)) (e_mul (e_mul d_int (d_ix (d_var (pv 0)) d_int)) (d_ix (d_var (pv 0)) d_int))))) (s_cons (s_seti (ps_asg (e_mod (e_add (d_var (pv 3)) (e_mul d_int (d_ix (d_var (pv 0)) d_int))) d_int) (pg_sub (d_var (pv 0)) d_int set_list))) (s_cons (s_set (ps_set (i := 3) nd rfl (Or.inl rfl) (e_add (e_mul (d_ix (d_var (pv 0)) d_int) (d_ix (d_var (pv 0)) d_int)) (e_mul d_int (d_ix (d_var (pv 0)) d_int))))) (s_one (s_ret (e_mod (e_div (e_add (e_mul (d_ix (d_var (pv 0)) d_int) (e_pow d_int d_int)) (e_mod (d_var (pv 3)) d_int)) (e_pow d_int d_int)) (d_var (pv 1)))))))))))
theorem sc__law_drawn : FnScope ["vase", "most", "wide", "many", "way", "base", "found", "here", "steps", "turn", "some"] ["vase", "most", "wide"] (defScope s__law_drawn) := ⟨rfl, rfl, rfl, by decide +kernel, rfl, by decide +kernel, by decide +kernel⟩
theorem ok__law_drawn (T : Txt a K mg cl) (G__law_stem : FnOk P w K mg base (L2.CX P w) 1 a.f__law_stem a.d__law_stem ["vase", "many"] (spD K cl 2 m__law_stem)) : FnOk P w K mg base (L2.CX P w) 2 a.f__law_drawn a.d__law_drawn ["vase", "most", "wide"] (spD K cl 3 m__law_drawn) := by
  refine def_ok (b := D__law_drawn) T.fn__law_drawn sc__law_drawn rfl (by decide) (does_run _ _) fun cdv A outer s H E e hr tk => ?_
  have nd := sc__law_drawn.nd
  exact (s_cons (s_par3 (ps_par3 (i := 3) (j := 4) (l := 5) (by rfl) nd rfl rfl rfl (by decide) (by decide) (by decide) rfl rfl rfl (d_acons (d_fz (d_call G__law_stem (hr.mono (by decide)) (by rfl) T.mg__law_stem T.fn__law_stem.kp (T.bd__law_stem) tk (d_acons (d_var (pv 0)) (d_acons (e_add (d_var (pv 1)) d_int) d_anil)))) (d_acons (d_fz (d_call G__law_stem (hr.mono (by decide)) (by rfl) T.mg__law_stem T.fn__law_stem.kp (T.bd__law_stem) tk (d_acons (d_var (pv 0)) (d_acons d_int d_anil)))) (d_acons (e_add d_int (d_fz (d_call G__law_stem (hr.mono (by decide)) (by rfl) T.mg__law_stem T.fn__law_stem.kp (T.bd__law_stem) tk (d_acons (d_var (pv 0)) (d_acons (d_var (pv 2)) d_anil))))) d_anil))) (by rfl))) (s_cons (s_par3 (ps_par3 (i := 6) (j := 7) (l := 8) (by rfl) nd rfl rfl rfl (by decide) (by decide) (by decide) rfl rfl rfl (d_acons (d_ce (e_lst d_anil)) (d_acons d_int (d_acons (e_add d_int (e_mod (d_var (pv 5)) d_int)) d_anil))) (by rfl))) (s_cons (s_for it_rng1 td_name (ps_for (passes_of rfl) (by rfl) (pi_range1 (by rfl) T.z_range (d_acons (d_var (pv 3)) d_anil)) (pg_name (i := 9) nd rfl (Or.inl rfl)) (s_cons (s_set (ps_set (i := 7) nd rfl (Or.inl rfl) (e_mul (d_var (pv 7)) (e_add d_int (d_fz (d_call G__law_stem (hr.mono (by decide)) (by rfl) T.mg__law_stem T.fn__law_stem.kp (T.bd__law_stem) tk (d_acons (d_var (pv 0)) (d_acons d_int d_anil)))))))) (s_cons (s_set (ps_set (i := 10) nd rfl (Or.inl rfl) (d_ce (e_lst (d_acons (e_add d_int (d_fz (d_call G__law_stem (hr.mono (by decide)) (by rfl) T.mg__law_stem T.fn__law_stem.kp (T.bd__law_stem) tk (d_acons (d_var (pv 0)) (d_acons (d_var (pv 2)) d_anil))))) (d_acons (d_var (pv 7)) (d_acons (e_add d_int (d_fz (d_call G__law_stem (hr.mono (by decide)) (by rfl) T.mg__law_stem T.fn__law_stem.kp (T.bd__law_stem) tk (d_acons (d_var (pv 0)) (d_acons (e_min (by rfl) (by rfl) T.z_min (d_acons (d_var (pv 2)) (d_acons d_int d_anil))) d_anil))))) d_anil))))))) (s_cons (s_drop (ps_expr (pe_w (pe_bm PySem.F.plainAttrs_list PySem.F.slot_list_append PySem.F.type_list_append mt_append (d_var (pv 10)) (d_acons (e_mul (d_var (pv 8)) (e_add d_int (d_fz (d_call G__law_stem (hr.mono (by decide)) (by rfl) T.mg__law_stem T.fn__law_stem.kp (T.bd__law_stem) tk (d_acons (d_var (pv 0)) (d_acons (e_max (by rfl) (by rfl) T.z_max (d_acons d_int (d_acons (e_div (d_var (pv 2)) (d_var (pv 8))) d_anil))) d_anil)))))) d_anil)) fun _ _ _ q => rd_mt (fun _ _ _ _ _ _ _ => isL_ty) md_app q))) (s_one (s_drop (ps_expr (pe_w (pe_bm PySem.F.plainAttrs_list PySem.F.slot_list_append PySem.F.type_list_append mt_append (d_var (pv 6)) (d_acons (e_min (by rfl) (by rfl) T.z_min (d_acons (d_var (pv 2)) (d_acons (d_ix (d_var (pv 10)) (d_var (pv 4))) d_anil))) d_anil)) fun _ _ _ q => rd_mt (fun _ _ _ _ _ _ _ => isL_ty) md_app q))))))))) (s_one (s_ret (e_sortsetG (by rfl) (by rfl) T.z_sorted (by rfl) T.z_set (d_var (pv 6))))))))
theorem sc__law_is_in : FnScope ["some", "value", "one"] ["some", "value"] (defScope s__law_is_in) := ⟨rfl, rfl, rfl, by decide +kernel, rfl, by decide +kernel, by decide +kernel⟩
theorem ok__law_is_in (T : Txt a K mg cl)  : FnOk P w K mg base (L2.CX P w) 1 a.f__law_is_in a.d__law_is_in ["some", "value"] (spD K cl 2 m__law_is_in) := by
  refine def_ok (b := D__law_is_in) T.fn__law_is_in sc__law_is_in rfl (by decide) (does_run _ _) fun cdv A outer s H E e hr tk => ?_
  have nd := sc__law_is_in.nd
  exact (s_one (s_ret (e_eq (hu := hr.units) (e_mod (e_len (by rfl) T.z_len (d_acons (d_fz (d_lcV (tc_name (by decide)) (pe_lc (own := [("one", 2)]) (by rfl) nd (pi_list (pv 0)) (blkOk_by (N := ["some", "value", "one"]) (sc := defScope s__law_is_in) (by decide +kernel)) (fun _ _ _ _ _ => (pg_name (i := 2) nd rfl (Or.inl rfl))) (fun _ _ _ _ _ => (pts_one (pt_ex fun e => (c_eq (hu := hr.units) (e_mod (d_var (pv 1)) (d_var (pv 2))) d_int)))) (fun _ _ _ _ _ => pe_ex fun e => d_int)))) d_anil)) d_int) d_int)))
theorem sc__law_table : FnScope ["some", "top", "value"] ["some", "top"] (defScope s__law_table) := ⟨rfl, rfl, rfl, by decide +kernel, rfl, by decide +kernel, by decide +kernel⟩
theorem ok__law_table (T : Txt a K mg cl) (G__law_is_in : FnOk P w K mg base (L2.CX P w) 1 a.f__law_is_in a.d__law_is_in ["some", "value"] (spD K cl 2 m__law_is_in)) : FnOk P w K mg base (L2.CX P w) 2 a.f__law_table a.d__law_table ["some", "top"] (spD K cl 2 m__law_table) := by
  refine def_ok (b := D__law_table) T.fn__law_table sc__law_table rfl (by decide) (does_run _ _) fun cdv A outer s H E e hr tk => ?_
  have nd := sc__law_table.nd
  exact (s_one (s_ret (d_lc ic_rng2 (tc_name (by decide)) (pe_lc (own := [("value", 2)]) (by rfl) nd (pi_range2 (by rfl) T.z_range (d_acons d_int (d_acons (e_add (d_var (pv 1)) d_int) d_anil))) (blkOk_by (N := ["some", "top", "value"]) (sc := defScope s__law_table) (by decide +kernel)) (fun _ _ _ _ _ => (pg_name (i := 2) nd rfl (Or.inl rfl))) (fun _ _ _ _ _ => (pts_one (pt_ex fun e => (t_val (d_fz (d_call G__law_is_in (hr.mono (by decide)) (by rfl) T.mg__law_is_in T.fn__law_is_in.kp (T.bd__law_is_in) takesW0 (d_acons (d_var (pv 0)) (d_acons (d_var (pv 2)) d_anil)))))))) (fun _ _ _ _ _ => pe_ex fun e => (d_var (pv 2)))))))
theorem sc__law_right : FnScope ["vase", "some", "made", "row", "tops", "turn", "value", "top", "due"] ["vase", "some"] (defScope s__law_right) := ⟨rfl, rfl, rfl, by decide +kernel, rfl, by decide +kernel, by decide +kernel⟩
theorem ok__law_right (T : Txt a K mg cl) (G__law_table : FnOk P w K mg base (L2.CX P w) 2 a.f__law_table a.d__law_table ["some", "top"] (spD K cl 2 m__law_table)) (G_form_init : FnOk P w K mg base (L2.CX P w) 5 a.f_form_init a.d_form_init ["self", "divisors"] (spD K cl 2 m_form_init)) (G__law_stem : FnOk P w K mg base (L2.CX P w) 1 a.f__law_stem a.d__law_stem ["vase", "many"] (spD K cl 2 m__law_stem)) (G_count_up_to : FnOk P w K mg base (L2.CX P w) 4 a.f_count_up_to a.d_count_up_to ["form", "limit"] (spD K cl 2 m_count_up_to)) (G_form_divisors : FnOk P w K mg base (L2.CX P w) 1 a.f_form_divisors a.d_form_divisors ["self"] (spD K cl 1 m_form_divisors)) : FnG P w K mg base (L2.CX P w) 7 a.f__law_right a.d__law_right ["vase", "some"] (spD K cl 2 m__law_right) := by
  refine def_g (b := D__law_right) T.fn__law_right sc__law_right rfl (by decide) (does_run _ _) fun cdv A outer s H E e hgd hr tk => ?_
  have nd := sc__law_right.nd
  exact (s_cons (s_par2 (ps_par (i := 2) (j := 3) (by rfl) nd rfl rfl (by decide) rfl rfl (d_acons (d_fz (d_make T.mk_Form G_form_init (mkOf_ok _ _) (hr.mono (by decide)) (by rfl) T.mg_Form (T.bd_form_init) tk (d_acons (d_fz (e_list (by rfl) T.z_list (d_acons (d_var (pv 1)) d_anil))) d_anil))) (d_acons (d_fz (d_call G__law_table (hr.mono (by decide)) (by rfl) T.mg__law_table T.fn__law_table.kp (T.bd__law_table) tk (d_acons (d_var (pv 1)) (d_acons d_int d_anil)))) d_anil)) (by rfl))) (s_cons (s_set (ps_set (i := 4) nd rfl (Or.inl rfl) (d_fz (e_add (d_fz (e_lst (d_acons d_int (d_acons d_int (d_acons d_int d_anil))))) (d_fz (d_lc ic_rng1 (tc_name (by decide)) (pe_lc (own := [("turn", 5)]) (by rfl) nd (pi_range1 (by rfl) T.z_range (d_acons d_int d_anil)) (blkOk_by (N := ["vase", "some", "made", "row", "tops", "turn", "value", "top", "due"]) (sc := defScope s__law_right) (by decide +kernel)) (fun _ _ _ _ _ => (pg_name (i := 5) nd rfl (Or.inl rfl))) (fun _ _ _ _ _ => pts_yes) (fun _ _ _ _ _ => pe_ex fun e => (d_fz (d_call G__law_stem (hr.mono (by decide)) (by rfl) T.mg__law_stem T.fn__law_stem.kp (T.bd__law_stem) takesW0 (d_acons (d_var (pv 0)) (d_acons d_int d_anil)))))))))))) (s_cons (s_for it_list td_name (ps_for (passes_of rfl) (by rfl) (pi_list (e_add (d_fz (d_slice (d_var (pv 3)) p_none (p_some d_int))) (d_fz (d_slice (d_var (pv 3)) (p_some (e_neg d_int)) p_none)))) (pg_name (i := 6) nd rfl (Or.inl rfl)) (s_one (s_set (ps_set (i := 4) nd rfl (Or.inl rfl) (d_fz (e_add (d_var (pv 4)) (d_fz (e_lst (d_acons (d_var (pv 6)) (d_acons (e_sub (d_var (pv 6)) d_int) d_anil))))))))))) (s_cons (s_for it_list td_name (ps_for (passes_of rfl) (by rfl) (pi_list (d_var (pv 4))) (pg_name (i := 7) nd rfl (Or.inr rfl)) (s_cons (s_set (ps_set (i := 8) nd rfl (Or.inl rfl) (e_len (by rfl) T.z_len (d_acons (d_fz (d_lcV (tc_name (by decide)) (pe_lc (own := [("value", 6)]) (by rfl) nd (pi_list (pv 3)) (blkOk_by (N := ["vase", "some", "made", "row", "tops", "turn", "value", "top", "due"]) (sc := defScope s__law_right) (by decide +kernel)) (fun _ _ _ _ _ => (pg_name (i := 6) nd rfl (Or.inl rfl))) (fun _ _ _ _ _ => (pts_one (pt_ex fun e => (c_le (d_var (pv 6)) (d_var (pv 7)))))) (fun _ _ _ _ _ => pe_ex fun e => (d_var (pv 6)))))) d_anil)))) (s_one (s_if (c_ne (hu := hr.units) (e_repr hgd (room100 hr) (by rfl) T.z_repr (d_acons (d_fz (e_lst (d_acons (d_fz (d_call G_count_up_to (hr.mono (by decide)) (by rfl) T.mg_count_up_to T.fn_count_up_to.kp (T.bd_count_up_to) tk (d_acons (d_var (pv 2)) (d_acons (d_var (pv 7)) d_anil)))) (d_acons (d_fz (d_callK G_count_up_to (hr.mono (by decide)) (by rfl) T.mg_count_up_to T.fn_count_up_to.kp T.kw_count_up_to_limit_form tk (k_cons (d_var (pv 7)) (k_cons (d_var (pv 2)) k_nil)))) d_anil)))) d_anil)) (e_repr hgd (room100 hr) (by rfl) T.z_repr (d_acons (d_fz (e_lst (d_acons (d_var (pv 8)) (d_acons (d_var (pv 8)) d_anil)))) d_anil))) (s_one (s_ret d_bl)) s_nil))))) (s_one (s_ret (e_eq (hu := hr.units) (d_fz (d_prop G_form_divisors (hr.mono (by decide)) (T.bd_form_divisors) T.cls_Form T.prop_form_divisors (d_var (pv 2)))) (d_var (pv 1)))))))))
theorem sc_law : FnScope ["script", "vase", "lap", "made", "top"] ["script"] (defScope s_law) := ⟨rfl, rfl, rfl, by decide +kernel, rfl, by decide +kernel, by decide +kernel⟩
theorem ok_law (T : Txt a K mg cl) (G__law_vase : FnOk P w K mg base (L2.CX P w) 1 a.f__law_vase a.d__law_vase ["script"] (spD K cl 1 m__law_vase)) (G__law_stem : FnOk P w K mg base (L2.CX P w) 1 a.f__law_stem a.d__law_stem ["vase", "many"] (spD K cl 2 m__law_stem)) (G__law_drawn : FnOk P w K mg base (L2.CX P w) 2 a.f__law_drawn a.d__law_drawn ["vase", "most", "wide"] (spD K cl 3 m__law_drawn)) (G__law_right : FnG P w K mg base (L2.CX P w) 7 a.f__law_right a.d__law_right ["vase", "some"] (spD K cl 2 m__law_right)) (G_form_init : FnOk P w K mg base (L2.CX P w) 5 a.f_form_init a.d_form_init ["self", "divisors"] (spD K cl 2 m_form_init)) (G_count_up_to : FnOk P w K mg base (L2.CX P w) 4 a.f_count_up_to a.d_count_up_to ["form", "limit"] (spD K cl 2 m_count_up_to)) : FnG P w K mg base (L2.CX P w) 8 a.f_law a.d_law ["script"] (spD K cl 1 m_law) := by
  refine def_g (b := D_law) T.fn_law sc_law rfl (by decide) (does_run _ _) fun cdv A outer s H E e hgd hr tk => ?_
  have nd := sc_law.nd
  exact (s_cons (s_set (ps_set (i := 1) nd rfl (Or.inl rfl) (d_ce (d_call G__law_vase (hr.mono (by decide)) (by rfl) T.mg__law_vase T.fn__law_vase.kp (T.bd__law_vase) tk (d_acons (d_var (pv 0)) d_anil))))) (s_cons (s_for it_rng1 td_name (ps_for (passes_of rfl) (by rfl) (pi_range1 (by rfl) T.z_range (d_acons (e_add d_int (e_mul d_int (e_min (by rfl) (by rfl) T.z_min (d_acons (e_len (by rfl) T.z_len (d_acons (d_var (pv 0)) d_anil)) (d_acons d_int d_anil))))) d_anil)) (pg_name (i := 2) nd rfl (Or.inl rfl)) (s_one (s_if (t_not (t_val (d_fz (d_callG G__law_right hgd (hr.mono (by decide)) (by rfl) T.mg__law_right T.fn__law_right.kp (T.bd__law_right) tk (d_acons (d_var (pv 1)) (d_acons (d_fz (d_call G__law_drawn (hr.mono (by decide)) (by rfl) T.mg__law_drawn T.fn__law_drawn.kp (T.bd__law_drawn) tk (d_acons (d_var (pv 1)) (d_acons d_int (d_acons (d_ix (d_fz (e_lst (d_acons d_int (d_acons d_int d_anil)))) (d_fz (d_call G__law_stem (hr.mono (by decide)) (by rfl) T.mg__law_stem T.fn__law_stem.kp (T.bd__law_stem) tk (d_acons (d_var (pv 1)) (d_acons d_int d_anil))))) d_anil))))) d_anil)))))) (s_one (s_ret d_bl)) s_nil)))) (s_cons (s_set (ps_set (i := 3) nd rfl (Or.inr rfl) (d_fz (d_make T.mk_Form G_form_init (mkOf_ok _ _) (hr.mono (by decide)) (by rfl) T.mg_Form (T.bd_form_init) tk (d_acons (d_fz (e_lst (d_acons d_int (d_acons d_int (d_acons d_int d_anil))))) d_anil))))) (s_one (s_ret (e_eq (hu := hr.units) (d_fz (d_lc ic_list (tc_name (by decide)) (pe_lc (own := [("top", 4)]) (by rfl) nd (pi_list (e_lst (d_acons d_int (d_acons d_int (d_acons d_int (d_acons d_int (d_acons d_int d_anil))))))) (blkOk_by (N := ["script", "vase", "lap", "made", "top"]) (sc := defScope s_law) (by decide +kernel)) (fun _ _ _ _ _ => (pg_name (i := 4) nd rfl (Or.inl rfl))) (fun _ _ _ _ _ => pts_yes) (fun _ _ _ _ _ => pe_ex fun e => (d_fz (d_call G_count_up_to (hr.mono (by decide)) (by rfl) T.mg_count_up_to T.fn_count_up_to.kp (T.bd_count_up_to) takesW0 (d_acons (d_var (pv 3)) (d_acons (d_var (pv 4)) d_anil)))))))) (d_fz (e_lst (d_acons d_int (d_acons d_int (d_acons d_int (d_acons d_int (d_acons d_int d_anil)))))))))))))
theorem all_ok (T : Txt a K mg cl) : FnG P w K mg base (L2.CX P w) 8 a.f_law a.d_law ["script"] (spD K cl 1 m_law) := by
  have o_is_integer := ok_is_integer (P := P) (w := w) (base := base) T 
  have o_is_number := ok_is_number T o_is_integer
  have o_check_from := ok_check_from T o_is_integer
  have o_is_divisor := ok_is_divisor T o_is_number
  have o_are_divisors := ok_are_divisors T o_is_divisor
  have o_form_init := ok_form_init T o_are_divisors
  have o_form_divisors := ok_form_divisors (P := P) (w := w) (base := base) T 
  have o_form_len := ok_form_len (P := P) (w := w) (base := base) T 
  have o_weights_of := ok_weights_of T o_form_len o_form_divisors
  have o_counted := ok_counted (P := P) (w := w) (base := base) T 
  have o_count_up_to := ok_count_up_to T o_check_from o_weights_of o_counted
  have o__law_vase := ok__law_vase (P := P) (w := w) (base := base) T 
  have o__law_stem := ok__law_stem (P := P) (w := w) (base := base) T 
  have o__law_drawn := ok__law_drawn T o__law_stem
  have o__law_is_in := ok__law_is_in (P := P) (w := w) (base := base) T 
  have o__law_table := ok__law_table T o__law_is_in
  have o__law_right := ok__law_right T o__law_table o_form_init o__law_stem o_count_up_to o_form_divisors
  have o_law := ok_law T o__law_vase o__law_stem o__law_drawn o__law_right o_form_init o_count_up_to
  exact o_law
end
end K27

set_option maxRecDepth 100000
set_option maxHeartbeats 4000000
/-! the head of K27, printed by gen2.py -/
namespace K27
open PySem PySem.Spec PyProof.Rows L2 Dv Pg Lw
def spLaw (K : PySem.W.Frag) : Sp := fun vs H Q _ => ∃ (ad : Addr) (ns : List Int), vs = [.ref ad] ∧ SqL K H ad (ns.map V.int) ∧ ns.length ≤ 63 ∧ ∀ H', Q (.bl true) H'
theorem sp_imp {K : PySem.W.Frag} {cl : Cl} (vs : List V) (H : Hp) (Q : VK) (E : XK) (h : spLaw K vs H Q E) : spD K cl 1 m_law vs H Q E := by
  obtain ⟨ad, ns, rfl, hS, hl, k⟩ := h
  refine ⟨rfl, H, [], [], [.ro (ns.map D.int)], Ex.refl H, ⟨rfl, List.nodup_nil, fun j a c h => by cases h⟩, .cons (.ro hS (isL_ints ns)) .nil, ?_⟩
  rw [law_true hl]
  intro v F' H' ca' _ i
  cases i
  exact k _
theorem all_mk {P : Program} {w : World} {K : PySem.W.Frag} {h : Heap} {mg : Str → Option Value} {fa : Addr} (X : K.In h) (G : h.Ns mainGlobals mg) (hfa : mg "law" = some (.ref fa))
    {t_MOST_DIVISORS : Tok}
    {t_DIVISOR_LIMIT : Tok}
    {t_MOST_COUNTED : Tok}
    {C0 : Addr}
    {C11 : Addr}
    {C14 : Addr}
    {C16 : Addr}
    {f_is_integer : Addr} {od_is_integer an_is_integer : Option Addr} {sl_is_integer : Array (Option Value)} {oc_is_integer kV_is_integer dc_is_integer pm_is_integer cd_is_integer ct_is_integer : Value}
    {f_is_number : Addr} {od_is_number an_is_number : Option Addr} {sl_is_number : Array (Option Value)} {oc_is_number kV_is_number dc_is_number pm_is_number cd_is_number ct_is_number : Value}
    {f_check_from : Addr} {od_check_from an_check_from : Option Addr} {sl_check_from : Array (Option Value)} {oc_check_from kV_check_from dc_check_from pm_check_from cd_check_from ct_check_from : Value}
    {f_is_divisor : Addr} {od_is_divisor an_is_divisor : Option Addr} {sl_is_divisor : Array (Option Value)} {oc_is_divisor kV_is_divisor dc_is_divisor pm_is_divisor cd_is_divisor ct_is_divisor : Value}
    {f_are_divisors : Addr} {od_are_divisors an_are_divisors : Option Addr} {sl_are_divisors : Array (Option Value)} {oc_are_divisors kV_are_divisors dc_are_divisors pm_are_divisors cd_are_divisors ct_are_divisors : Value}
    {f_form_init : Addr} {od_form_init an_form_init : Option Addr} {sl_form_init : Array (Option Value)} {oc_form_init kV_form_init dc_form_init pm_form_init cd_form_init ct_form_init : Value}
    {f_form_divisors : Addr} {od_form_divisors an_form_divisors : Option Addr} {sl_form_divisors : Array (Option Value)} {oc_form_divisors kV_form_divisors dc_form_divisors pm_form_divisors cd_form_divisors ct_form_divisors : Value}
    {p_form_divisors : Addr} {pl_form_divisors : List Value}
    {f_form_len : Addr} {od_form_len an_form_len : Option Addr} {sl_form_len : Array (Option Value)} {oc_form_len kV_form_len dc_form_len pm_form_len cd_form_len ct_form_len : Value}
    {f_count_up_to : Addr} {od_count_up_to an_count_up_to : Option Addr} {sl_count_up_to : Array (Option Value)} {oc_count_up_to kV_count_up_to dc_count_up_to pm_count_up_to cd_count_up_to ct_count_up_to : Value}
    {f_weights_of : Addr} {od_weights_of an_weights_of : Option Addr} {sl_weights_of : Array (Option Value)} {oc_weights_of kV_weights_of dc_weights_of pm_weights_of cd_weights_of ct_weights_of : Value}
    {f_counted : Addr} {od_counted an_counted : Option Addr} {sl_counted : Array (Option Value)} {oc_counted kV_counted dc_counted pm_counted cd_counted ct_counted : Value}
    {f__law_vase : Addr} {od__law_vase an__law_vase : Option Addr} {sl__law_vase : Array (Option Value)} {oc__law_vase kV__law_vase dc__law_vase pm__law_vase cd__law_vase ct__law_vase : Value}
    {f__law_stem : Addr} {od__law_stem an__law_stem : Option Addr} {sl__law_stem : Array (Option Value)} {oc__law_stem kV__law_stem dc__law_stem pm__law_stem cd__law_stem ct__law_stem : Value}
    {f__law_drawn : Addr} {od__law_drawn an__law_drawn : Option Addr} {sl__law_drawn : Array (Option Value)} {oc__law_drawn kV__law_drawn dc__law_drawn pm__law_drawn cd__law_drawn ct__law_drawn : Value}
    {f__law_is_in : Addr} {od__law_is_in an__law_is_in : Option Addr} {sl__law_is_in : Array (Option Value)} {oc__law_is_in kV__law_is_in dc__law_is_in pm__law_is_in cd__law_is_in ct__law_is_in : Value}
    {f__law_table : Addr} {od__law_table an__law_table : Option Addr} {sl__law_table : Array (Option Value)} {oc__law_table kV__law_table dc__law_table pm__law_table cd__law_table ct__law_table : Value}
    {f__law_right : Addr} {od__law_right an__law_right : Option Addr} {sl__law_right : Array (Option Value)} {oc__law_right kV__law_right dc__law_right pm__law_right cd__law_right ct__law_right : Value}
    {f_law : Addr} {od_law an_law : Option Addr} {sl_law : Array (Option Value)} {oc_law kV_law dc_law pm_law cd_law ct_law : Value}
    (hz_abs : PySem.W.nsIn K mainGlobals "abs" = some none)
    (hz_all : PySem.W.nsIn K mainGlobals "all" = some none)
    (hz_bool : PySem.W.nsIn K mainGlobals "bool" = some none)
    (hz_int : PySem.W.nsIn K mainGlobals "int" = some none)
    (hz_isinstance : PySem.W.nsIn K mainGlobals "isinstance" = some none)
    (hz_len : PySem.W.nsIn K mainGlobals "len" = some none)
    (hz_list : PySem.W.nsIn K mainGlobals "list" = some none)
    (hz_max : PySem.W.nsIn K mainGlobals "max" = some none)
    (hz_min : PySem.W.nsIn K mainGlobals "min" = some none)
    (hz_range : PySem.W.nsIn K mainGlobals "range" = some none)
    (hz_repr : PySem.W.nsIn K mainGlobals "repr" = some none)
    (hz_set : PySem.W.nsIn K mainGlobals "set" = some none)
    (hz_sorted : PySem.W.nsIn K mainGlobals "sorted" = some none)
    (hz_sum : PySem.W.nsIn K mainGlobals "sum" = some none)
    (hz_zip : PySem.W.nsIn K mainGlobals "zip" = some none)
    (g_MOST_DIVISORS : PySem.W.nsIn K mainGlobals "MOST_DIVISORS" = some (some (.int 200 t_MOST_DIVISORS)))
    (g_DIVISOR_LIMIT : PySem.W.nsIn K mainGlobals "DIVISOR_LIMIT" = some (some (.int 100000000000000000000 t_DIVISOR_LIMIT)))
    (g_MOST_COUNTED : PySem.W.nsIn K mainGlobals "MOST_COUNTED" = some (some (.int 12 t_MOST_COUNTED)))
    (g_lcm : PySem.W.nsIn K mainGlobals "lcm" = some (some (.builtin "math.lcm")))
    (aC0 : PySem.W.nsIn K mainGlobals "Form" = some (some (.ref C0)))
    (pg0 : PySem.W.plainGet K C0 Str.empty = true)
    (hd0 : PySem.W.hasDictIn K C0 = true)
    (po0 : PySem.W.plainOver K C0 = true)
    (sa0 : PySem.W.findIn K (.ref C0) "__setattr__" = some (some (.builtin "object.__setattr__")))
    (na0__held : PySem.W.findIn K (.ref C0) "_held" = some none)
    (aC11 : PySem.W.nsIn K mainGlobals "InvalidDivisors" = some (some (.ref C11)))
    (xc11 : PySem.W.excIn K C11 [.type "ValueError", .type "Exception", .type "BaseException", .type "object"] "ValueError.__new__" = true)
    (kc11 : PySem.W.keepIn K (.ref C11) = true)
    (rb11 : PySem.W.subIn K (.ref C11) (.type "BaseException") = some true)
    (rt11 : PySem.W.typeIn K (.ref C11) = some (.type "type"))
    (aC14 : PySem.W.nsIn K mainGlobals "InvalidNumber" = some (some (.ref C14)))
    (xc14 : PySem.W.excIn K C14 [.type "ValueError", .type "Exception", .type "BaseException", .type "object"] "ValueError.__new__" = true)
    (kc14 : PySem.W.keepIn K (.ref C14) = true)
    (rb14 : PySem.W.subIn K (.ref C14) (.type "BaseException") = some true)
    (rt14 : PySem.W.typeIn K (.ref C14) = some (.type "type"))
    (aC16 : PySem.W.nsIn K mainGlobals "TooLarge" = some (some (.ref C16)))
    (xc16 : PySem.W.excIn K C16 [.type "ValueError", .type "Exception", .type "BaseException", .type "object"] "ValueError.__new__" = true)
    (kc16 : PySem.W.keepIn K (.ref C16) = true)
    (rb16 : PySem.W.subIn K (.ref C16) (.type "BaseException") = some true)
    (rt16 : PySem.W.typeIn K (.ref C16) = some (.type "type"))
    (a_is_integer : PySem.W.nsIn K mainGlobals "is_integer" = some (some (.ref f_is_integer)))
    (l_is_integer : K.lookup f_is_integer = some ⟨oc_is_integer, od_is_integer, .func (PySem.W.fnOf "is_integer" "is_integer" (defArgs s_is_integer) (defBody s_is_integer) (defScope s_is_integer) .none kV_is_integer dc_is_integer pm_is_integer an_is_integer cd_is_integer ct_is_integer), sl_is_integer⟩)
    (c_is_integer : PySem.W.codeIn K cd_is_integer "is_integer" = true)
    (k_is_integer : PySem.W.keepIn K (.ref f_is_integer) = true)
    (a_is_number : PySem.W.nsIn K mainGlobals "is_number" = some (some (.ref f_is_number)))
    (l_is_number : K.lookup f_is_number = some ⟨oc_is_number, od_is_number, .func (PySem.W.fnOf "is_number" "is_number" (defArgs s_is_number) (defBody s_is_number) (defScope s_is_number) .none kV_is_number dc_is_number pm_is_number an_is_number cd_is_number ct_is_number), sl_is_number⟩)
    (c_is_number : PySem.W.codeIn K cd_is_number "is_number" = true)
    (k_is_number : PySem.W.keepIn K (.ref f_is_number) = true)
    (a_check_from : PySem.W.nsIn K mainGlobals "check_from" = some (some (.ref f_check_from)))
    (l_check_from : K.lookup f_check_from = some ⟨oc_check_from, od_check_from, .func (PySem.W.fnOf "check_from" "check_from" (defArgs s_check_from) (defBody s_check_from) (defScope s_check_from) .none kV_check_from dc_check_from pm_check_from an_check_from cd_check_from ct_check_from), sl_check_from⟩)
    (c_check_from : PySem.W.codeIn K cd_check_from "check_from" = true)
    (k_check_from : PySem.W.keepIn K (.ref f_check_from) = true)
    (a_is_divisor : PySem.W.nsIn K mainGlobals "is_divisor" = some (some (.ref f_is_divisor)))
    (l_is_divisor : K.lookup f_is_divisor = some ⟨oc_is_divisor, od_is_divisor, .func (PySem.W.fnOf "is_divisor" "is_divisor" (defArgs s_is_divisor) (defBody s_is_divisor) (defScope s_is_divisor) .none kV_is_divisor dc_is_divisor pm_is_divisor an_is_divisor cd_is_divisor ct_is_divisor), sl_is_divisor⟩)
    (c_is_divisor : PySem.W.codeIn K cd_is_divisor "is_divisor" = true)
    (k_is_divisor : PySem.W.keepIn K (.ref f_is_divisor) = true)
    (a_are_divisors : PySem.W.nsIn K mainGlobals "are_divisors" = some (some (.ref f_are_divisors)))
    (l_are_divisors : K.lookup f_are_divisors = some ⟨oc_are_divisors, od_are_divisors, .func (PySem.W.fnOf "are_divisors" "are_divisors" (defArgs s_are_divisors) (defBody s_are_divisors) (defScope s_are_divisors) .none kV_are_divisors dc_are_divisors pm_are_divisors an_are_divisors cd_are_divisors ct_are_divisors), sl_are_divisors⟩)
    (c_are_divisors : PySem.W.codeIn K cd_are_divisors "are_divisors" = true)
    (k_are_divisors : PySem.W.keepIn K (.ref f_are_divisors) = true)
    (a_form_init : PySem.W.findIn K (.ref C0) "__init__" = some (some (.ref f_form_init)))
    (i_form_init : PySem.W.isFn K (.ref f_form_init) = true)
    (mk0 : PySem.W.makesIn K C0 = true)
    (kk0 : PySem.W.keepIn K (.ref C0) = true)
    (l_form_init : K.lookup f_form_init = some ⟨oc_form_init, od_form_init, .func (PySem.W.fnOf "__init__" "Form.__init__" (defArgs s_form_init) (defBody s_form_init) (defScope s_form_init) .none kV_form_init dc_form_init pm_form_init an_form_init cd_form_init ct_form_init), sl_form_init⟩)
    (c_form_init : PySem.W.codeIn K cd_form_init "Form.__init__" = true)
    (k_form_init : PySem.W.keepIn K (.ref f_form_init) = true)
    (a_form_divisors : PySem.W.findIn K (.ref C0) "divisors" = some (some (.ref p_form_divisors)))
    (pg_form_divisors : PySem.W.specialIn K (.ref p_form_divisors) "__get__" = some (some (.builtin "property.__get__")))
    (pt_form_divisors : PySem.W.takesIn K (.ref p_form_divisors) = some true)
    (pr_form_divisors : PySem.W.recIn K p_form_divisors "property" = some (.ref f_form_divisors :: pl_form_divisors))
    (l_form_divisors : K.lookup f_form_divisors = some ⟨oc_form_divisors, od_form_divisors, .func (PySem.W.fnOf "divisors" "Form.divisors" (defArgs s_form_divisors) (defBody s_form_divisors) (defScope s_form_divisors) .none kV_form_divisors dc_form_divisors pm_form_divisors an_form_divisors cd_form_divisors ct_form_divisors), sl_form_divisors⟩)
    (c_form_divisors : PySem.W.codeIn K cd_form_divisors "Form.divisors" = true)
    (k_form_divisors : PySem.W.keepIn K (.ref f_form_divisors) = true)
    (a_form_len : PySem.W.findIn K (.ref C0) "__len__" = some (some (.ref f_form_len)))
    (i_form_len : PySem.W.isFn K (.ref f_form_len) = true)
    (l_form_len : K.lookup f_form_len = some ⟨oc_form_len, od_form_len, .func (PySem.W.fnOf "__len__" "Form.__len__" (defArgs s_form_len) (defBody s_form_len) (defScope s_form_len) .none kV_form_len dc_form_len pm_form_len an_form_len cd_form_len ct_form_len), sl_form_len⟩)
    (c_form_len : PySem.W.codeIn K cd_form_len "Form.__len__" = true)
    (k_form_len : PySem.W.keepIn K (.ref f_form_len) = true)
    (a_count_up_to : PySem.W.nsIn K mainGlobals "count_up_to" = some (some (.ref f_count_up_to)))
    (l_count_up_to : K.lookup f_count_up_to = some ⟨oc_count_up_to, od_count_up_to, .func (PySem.W.fnOf "count_up_to" "count_up_to" (defArgs s_count_up_to) (defBody s_count_up_to) (defScope s_count_up_to) .none kV_count_up_to dc_count_up_to pm_count_up_to an_count_up_to cd_count_up_to ct_count_up_to), sl_count_up_to⟩)
    (c_count_up_to : PySem.W.codeIn K cd_count_up_to "count_up_to" = true)
    (k_count_up_to : PySem.W.keepIn K (.ref f_count_up_to) = true)
    (a_weights_of : PySem.W.nsIn K mainGlobals "weights_of" = some (some (.ref f_weights_of)))
    (l_weights_of : K.lookup f_weights_of = some ⟨oc_weights_of, od_weights_of, .func (PySem.W.fnOf "weights_of" "weights_of" (defArgs s_weights_of) (defBody s_weights_of) (defScope s_weights_of) .none kV_weights_of dc_weights_of pm_weights_of an_weights_of cd_weights_of ct_weights_of), sl_weights_of⟩)
    (c_weights_of : PySem.W.codeIn K cd_weights_of "weights_of" = true)
    (k_weights_of : PySem.W.keepIn K (.ref f_weights_of) = true)
    (a_counted : PySem.W.nsIn K mainGlobals "counted" = some (some (.ref f_counted)))
    (l_counted : K.lookup f_counted = some ⟨oc_counted, od_counted, .func (PySem.W.fnOf "counted" "counted" (defArgs s_counted) (defBody s_counted) (defScope s_counted) .none kV_counted dc_counted pm_counted an_counted cd_counted ct_counted), sl_counted⟩)
    (c_counted : PySem.W.codeIn K cd_counted "counted" = true)
    (k_counted : PySem.W.keepIn K (.ref f_counted) = true)
    (a__law_vase : PySem.W.nsIn K mainGlobals "_law_vase" = some (some (.ref f__law_vase)))
    (l__law_vase : K.lookup f__law_vase = some ⟨oc__law_vase, od__law_vase, .func (PySem.W.fnOf "_law_vase" "_law_vase" (defArgs s__law_vase) (defBody s__law_vase) (defScope s__law_vase) .none kV__law_vase dc__law_vase pm__law_vase an__law_vase cd__law_vase ct__law_vase), sl__law_vase⟩)
    (c__law_vase : PySem.W.codeIn K cd__law_vase "_law_vase" = true)
    (k__law_vase : PySem.W.keepIn K (.ref f__law_vase) = true)
    (a__law_stem : PySem.W.nsIn K mainGlobals "_law_stem" = some (some (.ref f__law_stem)))
    (l__law_stem : K.lookup f__law_stem = some ⟨oc__law_stem, od__law_stem, .func (PySem.W.fnOf "_law_stem" "_law_stem" (defArgs s__law_stem) (defBody s__law_stem) (defScope s__law_stem) .none kV__law_stem dc__law_stem pm__law_stem an__law_stem cd__law_stem ct__law_stem), sl__law_stem⟩)
    (c__law_stem : PySem.W.codeIn K cd__law_stem "_law_stem" = true)
    (k__law_stem : PySem.W.keepIn K (.ref f__law_stem) = true)
    (a__law_drawn : PySem.W.nsIn K mainGlobals "_law_drawn" = some (some (.ref f__law_drawn)))
    (l__law_drawn : K.lookup f__law_drawn = some ⟨oc__law_drawn, od__law_drawn, .func (PySem.W.fnOf "_law_drawn" "_law_drawn" (defArgs s__law_drawn) (defBody s__law_drawn) (defScope s__law_drawn) .none kV__law_drawn dc__law_drawn pm__law_drawn an__law_drawn cd__law_drawn ct__law_drawn), sl__law_drawn⟩)
    (c__law_drawn : PySem.W.codeIn K cd__law_drawn "_law_drawn" = true)
    (k__law_drawn : PySem.W.keepIn K (.ref f__law_drawn) = true)
    (a__law_is_in : PySem.W.nsIn K mainGlobals "_law_is_in" = some (some (.ref f__law_is_in)))
    (l__law_is_in : K.lookup f__law_is_in = some ⟨oc__law_is_in, od__law_is_in, .func (PySem.W.fnOf "_law_is_in" "_law_is_in" (defArgs s__law_is_in) (defBody s__law_is_in) (defScope s__law_is_in) .none kV__law_is_in dc__law_is_in pm__law_is_in an__law_is_in cd__law_is_in ct__law_is_in), sl__law_is_in⟩)
    (c__law_is_in : PySem.W.codeIn K cd__law_is_in "_law_is_in" = true)
    (k__law_is_in : PySem.W.keepIn K (.ref f__law_is_in) = true)
    (a__law_table : PySem.W.nsIn K mainGlobals "_law_table" = some (some (.ref f__law_table)))
    (l__law_table : K.lookup f__law_table = some ⟨oc__law_table, od__law_table, .func (PySem.W.fnOf "_law_table" "_law_table" (defArgs s__law_table) (defBody s__law_table) (defScope s__law_table) .none kV__law_table dc__law_table pm__law_table an__law_table cd__law_table ct__law_table), sl__law_table⟩)
    (c__law_table : PySem.W.codeIn K cd__law_table "_law_table" = true)
    (k__law_table : PySem.W.keepIn K (.ref f__law_table) = true)
    (a__law_right : PySem.W.nsIn K mainGlobals "_law_right" = some (some (.ref f__law_right)))
    (l__law_right : K.lookup f__law_right = some ⟨oc__law_right, od__law_right, .func (PySem.W.fnOf "_law_right" "_law_right" (defArgs s__law_right) (defBody s__law_right) (defScope s__law_right) .none kV__law_right dc__law_right pm__law_right an__law_right cd__law_right ct__law_right), sl__law_right⟩)
    (c__law_right : PySem.W.codeIn K cd__law_right "_law_right" = true)
    (k__law_right : PySem.W.keepIn K (.ref f__law_right) = true)
    (a_law : PySem.W.nsIn K mainGlobals "law" = some (some (.ref f_law)))
    (l_law : K.lookup f_law = some ⟨oc_law, od_law, .func (PySem.W.fnOf "law" "law" (defArgs s_law) (defBody s_law) (defScope s_law) .none kV_law dc_law pm_law an_law cd_law ct_law), sl_law⟩)
    (c_law : PySem.W.codeIn K cd_law "law" = true)
    (k_law : PySem.W.keepIn K (.ref f_law) = true)
    : ∃ fd : FuncData, (∀ (s : Shared) (v : Value), BindsTo s fd ⟨[v], []⟩ [("script", v)]) ∧ ∀ base : Heap, K.In base → base.Ns mainGlobals mg → FnG P w K mg base (L2.CX P w) 8 fa fd ["script"] (spLaw K) := by
  have e := (PySem.W.mg_of X G a_law).symm.trans hfa
  cases e
  let a : Adr := {
    f_is_integer := f_is_integer, d_is_integer := PySem.W.fnOf "is_integer" "is_integer" (defArgs s_is_integer) (defBody s_is_integer) (defScope s_is_integer) .none kV_is_integer dc_is_integer pm_is_integer an_is_integer cd_is_integer ct_is_integer,
    f_is_number := f_is_number, d_is_number := PySem.W.fnOf "is_number" "is_number" (defArgs s_is_number) (defBody s_is_number) (defScope s_is_number) .none kV_is_number dc_is_number pm_is_number an_is_number cd_is_number ct_is_number,
    f_check_from := f_check_from, d_check_from := PySem.W.fnOf "check_from" "check_from" (defArgs s_check_from) (defBody s_check_from) (defScope s_check_from) .none kV_check_from dc_check_from pm_check_from an_check_from cd_check_from ct_check_from,
    f_is_divisor := f_is_divisor, d_is_divisor := PySem.W.fnOf "is_divisor" "is_divisor" (defArgs s_is_divisor) (defBody s_is_divisor) (defScope s_is_divisor) .none kV_is_divisor dc_is_divisor pm_is_divisor an_is_divisor cd_is_divisor ct_is_divisor,
    f_are_divisors := f_are_divisors, d_are_divisors := PySem.W.fnOf "are_divisors" "are_divisors" (defArgs s_are_divisors) (defBody s_are_divisors) (defScope s_are_divisors) .none kV_are_divisors dc_are_divisors pm_are_divisors an_are_divisors cd_are_divisors ct_are_divisors,
    f_form_init := f_form_init, d_form_init := PySem.W.fnOf "__init__" "Form.__init__" (defArgs s_form_init) (defBody s_form_init) (defScope s_form_init) .none kV_form_init dc_form_init pm_form_init an_form_init cd_form_init ct_form_init,
    f_form_divisors := f_form_divisors, d_form_divisors := PySem.W.fnOf "divisors" "Form.divisors" (defArgs s_form_divisors) (defBody s_form_divisors) (defScope s_form_divisors) .none kV_form_divisors dc_form_divisors pm_form_divisors an_form_divisors cd_form_divisors ct_form_divisors,
    p_form_divisors := p_form_divisors,
    f_form_len := f_form_len, d_form_len := PySem.W.fnOf "__len__" "Form.__len__" (defArgs s_form_len) (defBody s_form_len) (defScope s_form_len) .none kV_form_len dc_form_len pm_form_len an_form_len cd_form_len ct_form_len,
    f_count_up_to := f_count_up_to, d_count_up_to := PySem.W.fnOf "count_up_to" "count_up_to" (defArgs s_count_up_to) (defBody s_count_up_to) (defScope s_count_up_to) .none kV_count_up_to dc_count_up_to pm_count_up_to an_count_up_to cd_count_up_to ct_count_up_to,
    f_weights_of := f_weights_of, d_weights_of := PySem.W.fnOf "weights_of" "weights_of" (defArgs s_weights_of) (defBody s_weights_of) (defScope s_weights_of) .none kV_weights_of dc_weights_of pm_weights_of an_weights_of cd_weights_of ct_weights_of,
    f_counted := f_counted, d_counted := PySem.W.fnOf "counted" "counted" (defArgs s_counted) (defBody s_counted) (defScope s_counted) .none kV_counted dc_counted pm_counted an_counted cd_counted ct_counted,
    f__law_vase := f__law_vase, d__law_vase := PySem.W.fnOf "_law_vase" "_law_vase" (defArgs s__law_vase) (defBody s__law_vase) (defScope s__law_vase) .none kV__law_vase dc__law_vase pm__law_vase an__law_vase cd__law_vase ct__law_vase,
    f__law_stem := f__law_stem, d__law_stem := PySem.W.fnOf "_law_stem" "_law_stem" (defArgs s__law_stem) (defBody s__law_stem) (defScope s__law_stem) .none kV__law_stem dc__law_stem pm__law_stem an__law_stem cd__law_stem ct__law_stem,
    f__law_drawn := f__law_drawn, d__law_drawn := PySem.W.fnOf "_law_drawn" "_law_drawn" (defArgs s__law_drawn) (defBody s__law_drawn) (defScope s__law_drawn) .none kV__law_drawn dc__law_drawn pm__law_drawn an__law_drawn cd__law_drawn ct__law_drawn,
    f__law_is_in := f__law_is_in, d__law_is_in := PySem.W.fnOf "_law_is_in" "_law_is_in" (defArgs s__law_is_in) (defBody s__law_is_in) (defScope s__law_is_in) .none kV__law_is_in dc__law_is_in pm__law_is_in an__law_is_in cd__law_is_in ct__law_is_in,
    f__law_table := f__law_table, d__law_table := PySem.W.fnOf "_law_table" "_law_table" (defArgs s__law_table) (defBody s__law_table) (defScope s__law_table) .none kV__law_table dc__law_table pm__law_table an__law_table cd__law_table ct__law_table,
    f__law_right := f__law_right, d__law_right := PySem.W.fnOf "_law_right" "_law_right" (defArgs s__law_right) (defBody s__law_right) (defScope s__law_right) .none kV__law_right dc__law_right pm__law_right an__law_right cd__law_right ct__law_right,
    f_law := fa, d_law := PySem.W.fnOf "law" "law" (defArgs s_law) (defBody s_law) (defScope s_law) .none kV_law dc_law pm_law an_law cd_law ct_law }
  have T : Txt a K mg (fun n => match n with | 0 => C0 | 11 => C11 | 14 => C14 | 16 => C16 | _ => fa) := {
    z_abs := PySem.W.mg_none_of X G hz_abs,
    z_all := PySem.W.mg_none_of X G hz_all,
    z_bool := PySem.W.mg_none_of X G hz_bool,
    z_int := PySem.W.mg_none_of X G hz_int,
    z_isinstance := PySem.W.mg_none_of X G hz_isinstance,
    z_len := PySem.W.mg_none_of X G hz_len,
    z_list := PySem.W.mg_none_of X G hz_list,
    z_max := PySem.W.mg_none_of X G hz_max,
    z_min := PySem.W.mg_none_of X G hz_min,
    z_range := PySem.W.mg_none_of X G hz_range,
    z_repr := PySem.W.mg_none_of X G hz_repr,
    z_set := PySem.W.mg_none_of X G hz_set,
    z_sorted := PySem.W.mg_none_of X G hz_sorted,
    z_sum := PySem.W.mg_none_of X G hz_sum,
    z_zip := PySem.W.mg_none_of X G hz_zip,
    g_MOST_DIVISORS := ⟨_, PySem.W.mg_of X G g_MOST_DIVISORS, ⟨_, rfl⟩⟩,
    g_DIVISOR_LIMIT := ⟨_, PySem.W.mg_of X G g_DIVISOR_LIMIT, ⟨_, rfl⟩⟩,
    g_MOST_COUNTED := ⟨_, PySem.W.mg_of X G g_MOST_COUNTED, ⟨_, rfl⟩⟩,
    g_lcm := PySem.W.mg_of X G g_lcm,
    mg_Form := PySem.W.mg_of X G aC0,
    cls_Form := ⟨pg0, hd0, po0, sa0⟩,
    na_Form__held := na0__held,
    mg_InvalidDivisors := PySem.W.mg_of X G aC11,
    xc_InvalidDivisors := xc11,
    kc_InvalidDivisors := kc11,
    rb_InvalidDivisors := rb11,
    rt_InvalidDivisors := rt11,
    mg_InvalidNumber := PySem.W.mg_of X G aC14,
    xc_InvalidNumber := xc14,
    kc_InvalidNumber := kc14,
    rb_InvalidNumber := rb14,
    rt_InvalidNumber := rt14,
    mg_TooLarge := PySem.W.mg_of X G aC16,
    xc_TooLarge := xc16,
    kc_TooLarge := kc16,
    rb_TooLarge := rb16,
    rt_TooLarge := rt16,
    mg_is_integer := PySem.W.mg_of X G a_is_integer,
    fn_is_integer := fun_mk (st := s_is_integer) l_is_integer c_is_integer k_is_integer,
    mg_is_number := PySem.W.mg_of X G a_is_number,
    fn_is_number := fun_mk (st := s_is_number) l_is_number c_is_number k_is_number,
    mg_check_from := PySem.W.mg_of X G a_check_from,
    fn_check_from := fun_mk (st := s_check_from) l_check_from c_check_from k_check_from,
    mg_is_divisor := PySem.W.mg_of X G a_is_divisor,
    fn_is_divisor := fun_mk (st := s_is_divisor) l_is_divisor c_is_divisor k_is_divisor,
    mg_are_divisors := PySem.W.mg_of X G a_are_divisors,
    fn_are_divisors := fun_mk (st := s_are_divisors) l_are_divisors c_are_divisors k_are_divisors,
    mk_Form := ⟨mk0, a_form_init, i_form_init, kk0⟩,
    fn_form_init := fun_mk (st := s_form_init) l_form_init c_form_init k_form_init,
    prop_form_divisors := ⟨a_form_divisors, pg_form_divisors, pt_form_divisors, ⟨_, pr_form_divisors⟩⟩,
    fn_form_divisors := fun_mk (st := s_form_divisors) l_form_divisors c_form_divisors k_form_divisors,
    fi_form_len := a_form_len,
    is_form_len := i_form_len,
    fn_form_len := fun_mk (st := s_form_len) l_form_len c_form_len k_form_len,
    mg_count_up_to := PySem.W.mg_of X G a_count_up_to,
    fn_count_up_to := fun_mk (st := s_count_up_to) l_count_up_to c_count_up_to k_count_up_to,
    mg_weights_of := PySem.W.mg_of X G a_weights_of,
    fn_weights_of := fun_mk (st := s_weights_of) l_weights_of c_weights_of k_weights_of,
    mg_counted := PySem.W.mg_of X G a_counted,
    fn_counted := fun_mk (st := s_counted) l_counted c_counted k_counted,
    mg__law_vase := PySem.W.mg_of X G a__law_vase,
    fn__law_vase := fun_mk (st := s__law_vase) l__law_vase c__law_vase k__law_vase,
    mg__law_stem := PySem.W.mg_of X G a__law_stem,
    fn__law_stem := fun_mk (st := s__law_stem) l__law_stem c__law_stem k__law_stem,
    mg__law_drawn := PySem.W.mg_of X G a__law_drawn,
    fn__law_drawn := fun_mk (st := s__law_drawn) l__law_drawn c__law_drawn k__law_drawn,
    mg__law_is_in := PySem.W.mg_of X G a__law_is_in,
    fn__law_is_in := fun_mk (st := s__law_is_in) l__law_is_in c__law_is_in k__law_is_in,
    mg__law_table := PySem.W.mg_of X G a__law_table,
    fn__law_table := fun_mk (st := s__law_table) l__law_table c__law_table k__law_table,
    mg__law_right := PySem.W.mg_of X G a__law_right,
    fn__law_right := fun_mk (st := s__law_right) l__law_right c__law_right k__law_right,
    mg_law := PySem.W.mg_of X G a_law,
    fn_law := fun_mk (st := s_law) l_law c_law k_law }
  exact ⟨_, fun s v => .of_eq rfl, fun base _ _ => (all_ok T).weak sp_imp⟩
theorem walk {l : PySem.W.OpenLaw} {q : Program} {loose : List Str} {XP : (Str → Option Value) → Heap → Prop} {YP : World → Heap → Prop} {d : DefRec} {K : Params → PySem.W.Frag} (hn : l.most = some 63) (hdf : d.params.defaults = [])
    (hY : ∀ (w : World) (h : Heap), YP w h → (K w.params).In h)
    (Fo : ∀ (w : World) (mg : Str → Option Value) (fa : Addr) (h : Heap), (K w.params).In h → h.Ns mainGlobals mg → mg d.name = some (.ref fa) →
      ∃ fd : FuncData, (∀ (s : Shared) (u : Value), BindsTo s fd ⟨[u], []⟩ [("script", u)]) ∧ ∀ base : Heap, (K w.params).In base → base.Ns mainGlobals mg → FnG l.prog w (K w.params) mg base (L2.CX l.prog w) 8 fa fd ["script"] (spLaw (K w.params))) :
    PySem.W.WalkO q loose XP YP l.row.toRowW d [] (fun f vs => PySem.call f vs) :=
  walk_g (n := 63) (k := 8) (x := "script") (CX := fun w => L2.CX l.prog w) (sp := fun w => spLaw (K w.params)) hn (by decide) hdf ⟨rfl, by decide, by decide⟩ hY Fo (fun _ _ ad ns hl _ hS => ⟨ad, ns, rfl, hS, hl, fun _ => rfl⟩) fun _ _ _ _ _ z => by
    obtain ⟨_, _, _, _, _, _, _, _, _, _, _, _, q⟩ := z
    exact q
end K27

set_option maxRecDepth 100000
set_option maxHeartbeats 4000000
open PySem PySem.W PyProof.Rows in
set_option maxRecDepth 100000 in
set_option maxHeartbeats 0 in
theorem PySem.Challenge.cw_leaprules_k27_counts_by_walking_holds : PySem.Challenge.rw_leaprules_k27_counts_by_walking.Holds := by
  w_on; o_law; k_head; (case hw => w_witness2)
  k_fill
  refine K27.walk (l := PySem.Challenge.rw_leaprules_k27_counts_by_walking) rfl rfl (fun w h Y => PySem.W.kIn_of Y) ?F
  case F =>
    intro w mg fa h KX G hmg
    refine' K27.all_mk KX G hmg ?hz_abs ?hz_all ?hz_bool ?hz_int ?hz_isinstance ?hz_len ?hz_list ?hz_max ?hz_min ?hz_range ?hz_repr ?hz_set ?hz_sorted ?hz_sum ?hz_zip ?g_MOST_DIVISORS ?g_DIVISOR_LIMIT ?g_MOST_COUNTED ?g_lcm ?aC0 ?pg0 ?hd0 ?po0 ?sa0 ?na0__held ?aC11 ?xc11 ?kc11 ?rb11 ?rt11 ?aC14 ?xc14 ?kc14 ?rb14 ?rt14 ?aC16 ?xc16 ?kc16 ?rb16 ?rt16 ?a_is_integer ?l_is_integer ?c_is_integer ?k_is_integer ?a_is_number ?l_is_number ?c_is_number ?k_is_number ?a_check_from ?l_check_from ?c_check_from ?k_check_from ?a_is_divisor ?l_is_divisor ?c_is_divisor ?k_is_divisor ?a_are_divisors ?l_are_divisors ?c_are_divisors ?k_are_divisors ?a_form_init ?i_form_init ?mk0 ?kk0 ?l_form_init ?c_form_init ?k_form_init ?a_form_divisors ?pg_form_divisors ?pt_form_divisors ?pr_form_divisors ?l_form_divisors ?c_form_divisors ?k_form_divisors ?a_form_len ?i_form_len ?l_form_len ?c_form_len ?k_form_len ?a_count_up_to ?l_count_up_to ?c_count_up_to ?k_count_up_to ?a_weights_of ?l_weights_of ?c_weights_of ?k_weights_of ?a_counted ?l_counted ?c_counted ?k_counted ?a__law_vase ?l__law_vase ?c__law_vase ?k__law_vase ?a__law_stem ?l__law_stem ?c__law_stem ?k__law_stem ?a__law_drawn ?l__law_drawn ?c__law_drawn ?k__law_drawn ?a__law_is_in ?l__law_is_in ?c__law_is_in ?k__law_is_in ?a__law_table ?l__law_table ?c__law_table ?k__law_table ?a__law_right ?l__law_right ?c__law_right ?k__law_right ?a_law ?l_law ?c_law ?k_law
    (case hz_abs => k_is)
    (case hz_all => k_is)
    (case hz_bool => k_is)
    (case hz_int => k_is)
    (case hz_isinstance => k_is)
    (case hz_len => k_is)
    (case hz_list => k_is)
    (case hz_max => k_is)
    (case hz_min => k_is)
    (case hz_range => k_is)
    (case hz_repr => k_is)
    (case hz_set => k_is)
    (case hz_sorted => k_is)
    (case hz_sum => k_is)
    (case hz_zip => k_is)
    (case g_MOST_DIVISORS => k_is)
    (case g_DIVISOR_LIMIT => k_is)
    (case g_MOST_COUNTED => k_is)
    (case g_lcm => k_is)
    (case aC0 => k_is)
    (case pg0 => k_is)
    (case hd0 => k_is)
    (case po0 => k_is)
    (case sa0 => k_is)
    (case na0__held => k_is)
    (case aC11 => k_is)
    (case xc11 => k_exc)
    (case kc11 => k_is)
    (case rb11 => k_is)
    (case rt11 => k_is)
    (case aC14 => k_is)
    (case xc14 => k_exc)
    (case kc14 => k_is)
    (case rb14 => k_is)
    (case rt14 => k_is)
    (case aC16 => k_is)
    (case xc16 => k_exc)
    (case kc16 => k_is)
    (case rb16 => k_is)
    (case rt16 => k_is)
    (case a_is_integer => k_is)
    (case l_is_integer => k_is)
    (case c_is_integer => k_is)
    (case k_is_integer => k_is)
    (case a_is_number => k_is)
    (case l_is_number => k_is)
    (case c_is_number => k_is)
    (case k_is_number => k_is)
    (case a_check_from => k_is)
    (case l_check_from => k_is)
    (case c_check_from => k_is)
    (case k_check_from => k_is)
    (case a_is_divisor => k_is)
    (case l_is_divisor => k_is)
    (case c_is_divisor => k_is)
    (case k_is_divisor => k_is)
    (case a_are_divisors => k_is)
    (case l_are_divisors => k_is)
    (case c_are_divisors => k_is)
    (case k_are_divisors => k_is)
    (case a_form_init => k_is)
    (case i_form_init => k_is)
    (case mk0 => k_is)
    (case kk0 => k_is)
    (case l_form_init => k_is)
    (case c_form_init => k_is)
    (case k_form_init => k_is)
    (case a_form_divisors => k_is)
    (case pg_form_divisors => k_is)
    (case pt_form_divisors => k_is)
    (case pr_form_divisors => k_is)
    (case l_form_divisors => k_is)
    (case c_form_divisors => k_is)
    (case k_form_divisors => k_is)
    (case a_form_len => k_is)
    (case i_form_len => k_is)
    (case l_form_len => k_is)
    (case c_form_len => k_is)
    (case k_form_len => k_is)
    (case a_count_up_to => k_is)
    (case l_count_up_to => k_is)
    (case c_count_up_to => k_is)
    (case k_count_up_to => k_is)
    (case a_weights_of => k_is)
    (case l_weights_of => k_is)
    (case c_weights_of => k_is)
    (case k_weights_of => k_is)
    (case a_counted => k_is)
    (case l_counted => k_is)
    (case c_counted => k_is)
    (case k_counted => k_is)
    (case a__law_vase => k_is)
    (case l__law_vase => k_is)
    (case c__law_vase => k_is)
    (case k__law_vase => k_is)
    (case a__law_stem => k_is)
    (case l__law_stem => k_is)
    (case c__law_stem => k_is)
    (case k__law_stem => k_is)
    (case a__law_drawn => k_is)
    (case l__law_drawn => k_is)
    (case c__law_drawn => k_is)
    (case k__law_drawn => k_is)
    (case a__law_is_in => k_is)
    (case l__law_is_in => k_is)
    (case c__law_is_in => k_is)
    (case k__law_is_in => k_is)
    (case a__law_table => k_is)
    (case l__law_table => k_is)
    (case c__law_table => k_is)
    (case k__law_table => k_is)
    (case a__law_right => k_is)
    (case l__law_right => k_is)
    (case c__law_right => k_is)
    (case k__law_right => k_is)
    (case a_law => k_is)
    (case l_law => k_is)
    (case c_law => k_is)
    (case k_law => k_is)

