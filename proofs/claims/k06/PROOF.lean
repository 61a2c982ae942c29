import PyProof.Rows.All
import Wide.All
import OpenK.AllK
import Wide.FinOn
import HandS.ForMost
import HandS.Exc
import HandS.TryOnly
import HandS.TryMany
import HandS.ExcOwn
import HandS.Wide
import HandS.SortInts
import HandS.Property
import HandS.Star
import HandS.MakeKw
import HandS.IsInst
import HandS.Strs
import HandS.Gcd
import HandS.Style
import HandS.Flow
import PyProof.Rows.RuleB_pow
import HandS.Zip
import KE.KOpsOwn
import KE.KMathGC
import HandS.Conv
import HandS.Dict
import HandS.Iter
import HandS.WordsExc
import HandS.Codes
import HandS.SetFor
import KE.KDictZip
import HandS.More
import PySem.Challenge.RW_leaprules_k06_scaled_and_spread_forms
set_option Elab.async false
set_option linter.all false
set_option maxRecDepth 100000
set_option maxHeartbeats 4000000
/-! Data: what a value is, apart from where it stands. -/
namespace Dv
open PySem PySem.Spec PyProof.Rows L2

/-- data: rf j is a cell (a list, a dict, an instance that may still change); ro: a list that nobody may write (the script) -/
inductive D where
  | non | bl (b : Bool) | int (i : Int) | str (s : Str)
  | lst (xs : List D) | tup (xs : List D)
  | obj (c : Nat) (fs : List (Str × D))
  | ro (xs : List D)
  | rf (j : Nat)
inductive Cell where
  | gone
  | lst (xs : List D)
  | ins (c : Nat) (fs : List (Str × D))
  | dic (kvs : List (Key × D))
structure S where
  sl : List (Option D)
  ce : List Cell
  n0 : Nat
/-- an exception: its class by number, its fields -/
structure Xc where
  cls : Nat
  fs : List (Str × D)
/-- what an evaluation gives: a value; a new list, a new instance, nobody else's; an error -/
inductive R where
  | ok (d : D) (s : S)
  | nl (xs : List D) (s : S)
  | ni (c : Nat) (fs : List (Str × D)) (s : S)
  | er (e : Xc) (s : S)
  | no
abbrev DE := S → R
inductive RA where
  | ok (ds : List D) (s : S)
  | er (e : Xc) (s : S)
  | no
abbrev DA := S → RA
inductive RB where
  | ok (b : Bool) (s : S)
  | er (e : Xc) (s : S)
  | no
abbrev DB := S → RB
inductive O where
  | nx (s : S) | bk (s : S) | ct (s : S)
  | rt (d : D) (s : S)
  | rl (xs : List D) (s : S)
  | ri (c : Nat) (fs : List (Str × D)) (s : S)
  | er (e : Xc) (s : S)
  | no
abbrev DS := S → O

/-- the text's classes by number -/
abbrev Cl := Nat → Addr

section
variable (K : PySem.W.Frag) (cl : Cl) (F : Hp) (ca : List Addr)
mutual
inductive Is : V → D → Prop
  | non : Is .non .non
  | bl (b : Bool) : Is (.bl b) (.bl b)
  | int (i : Int) : Is (.int i) (.int i)
  | str (s : Str) : Is (.str s) (.str s)
  | lst {a : Addr} {vs : List V} {ds : List D} : F a = some (.lst vs) → IsL vs ds → Is (.ref a) (.lst ds)
  | ro {a : Addr} {vs : List V} {ds : List D} : SqL K F a vs → IsL vs ds → Is (.ref a) (.ro ds)
  | tup {a : Addr} {vs : List V} {ds : List D} : SqT K F a vs → IsL vs ds → Is (.ref a) (.tup ds)
  | obj {a dx : Addr} {c : Nat} {vs : List (Str × V)} {ds : List (Str × D)} : F a = some (.ins (cl c) dx vs) → IsF vs ds → Is (.ref a) (.obj c ds)
  | rf {a : Addr} {j : Nat} : ca[j]? = some a → Is (.ref a) (.rf j)
inductive IsL : List V → List D → Prop
  | nil : IsL [] []
  | cons {v : V} {d : D} {vs : List V} {ds : List D} : Is v d → IsL vs ds → IsL (v :: vs) (d :: ds)
inductive IsF : List (Str × V) → List (Str × D) → Prop
  | nil : IsF [] []
  | cons {k : Str} {v : V} {d : D} {vs : List (Str × V)} {ds : List (Str × D)} : Is v d → IsF vs ds → IsF ((k, v) :: vs) ((k, d) :: ds)
end
inductive IsK : List (Key × V) → List (Key × D) → Prop
  | nil : IsK [] []
  | cons {k : Key} {v : V} {d : D} {vs : List (Key × V)} {ds : List (Key × D)} : Is K cl F ca v d → IsK vs ds → IsK ((k, v) :: vs) ((k, d) :: ds)
end

abbrev Ex (H H' : Hp) : Prop := ∀ a o, H a = some o → H' a = some o
theorem Ex.refl (H : Hp) : Ex H H := fun _ _ h => h
theorem Ex.trans {H H1 H2 : Hp} (a : Ex H H1) (b : Ex H1 H2) : Ex H H2 := fun x o h => b x o (a x o h)
theorem Ex.new {H : Hp} {p : Addr} {o : HO} (h : H p = none) : Ex H (upd H p o) := fun a u e => by
  rw [upd_ne (ne_of_none e h)]
  exact e
theorem ex_rd {H H' : Hp} {a : Addr} {u : HO} (e : Ex H H') (h : Rd H a u) : Rd H' a u := by
  rcases h with h | ⟨o, h⟩
  · exact Or.inl (e a _ h)
  · exact Or.inr ⟨o, e a _ h⟩
theorem ex_l {K : PySem.W.Frag} {H H' : Hp} {a : Addr} {xs : List V} (e : Ex H H') (h : SqL K H a xs) : SqL K H' a xs := by
  rcases h with h | h
  · exact Or.inl (ex_rd e h)
  · exact Or.inr h
theorem ex_t {K : PySem.W.Frag} {H H' : Hp} {a : Addr} {xs : List V} (e : Ex H H') (h : SqT K H a xs) : SqT K H' a xs := by
  rcases h with h | h
  · exact Or.inl (ex_rd e h)
  · exact Or.inr h
/-- more cells -/
def Pre (ca ca' : List Addr) : Prop := ∀ (j : Nat) (a : Addr), ca[j]? = some a → ca'[j]? = some a
theorem Pre.refl (ca : List Addr) : Pre ca ca := fun _ _ h => h
theorem Pre.trans {a b c : List Addr} (x : Pre a b) (y : Pre b c) : Pre a c := fun j q h => y j q (x j q h)
theorem Pre.app (ca : List Addr) (l : List Addr) : Pre ca (ca ++ l) := fun j a h => by
  rw [List.getElem?_append_left (List.getElem?_eq_some_iff.mp h).1]
  exact h

section
variable {K : PySem.W.Frag} {cl : Cl} {F F' H H' : Hp} {ca ca' : List Addr}
mutual
theorem Is.mono (e : Ex F F') (p : Pre ca ca') : ∀ {v : V} {d : D}, Is K cl F ca v d → Is K cl F' ca' v d
  | _, _, .non => .non
  | _, _, .bl b => .bl b
  | _, _, .int i => .int i
  | _, _, .str s => .str s
  | _, _, .lst h l => .lst (e _ _ h) (IsL.mono e p l)
  | _, _, .ro h l => .ro (ex_l e h) (IsL.mono e p l)
  | _, _, .tup h l => .tup (ex_t e h) (IsL.mono e p l)
  | _, _, .obj h l => .obj (e _ _ h) (IsF.mono e p l)
  | _, _, .rf h => .rf (p _ _ h)
theorem IsL.mono (e : Ex F F') (p : Pre ca ca') : ∀ {v : List V} {d : List D}, IsL K cl F ca v d → IsL K cl F' ca' v d
  | _, _, .nil => .nil
  | _, _, .cons h t => .cons (Is.mono e p h) (IsL.mono e p t)
theorem IsF.mono (e : Ex F F') (p : Pre ca ca') : ∀ {v : List (Str × V)} {d : List (Str × D)}, IsF K cl F ca v d → IsF K cl F' ca' v d
  | _, _, .nil => .nil
  | _, _, .cons h t => .cons (Is.mono e p h) (IsF.mono e p t)
end
theorem IsK.mono (e : Ex F F') (p : Pre ca ca') : ∀ {v : List (Key × V)} {d : List (Key × D)}, IsK K cl F ca v d → IsK K cl F' ca' v d
  | _, _, .nil => .nil
  | _, _, .cons h t => .cons (Is.mono e p h) (IsK.mono e p t)
theorem IsL.length : ∀ {v : List V} {d : List D}, IsL K cl F ca v d → v.length = d.length
  | _, _, .nil => rfl
  | _, _, .cons _ t => by rw [List.length_cons, List.length_cons, IsL.length t]
theorem IsL.get : ∀ {vs : List V} {ds : List D} {i : Nat} {d : D}, IsL K cl F ca vs ds → ds[i]? = some d → ∃ v, vs[i]? = some v ∧ Is K cl F ca v d
  | _, _, _, _, .nil, h => by simp at h
  | _, _, 0, _, .cons r t, h => by
    simp at h
    subst h
    exact ⟨_, rfl, r⟩
  | _, _, i + 1, d, .cons r t, h => by
    obtain ⟨v, h1, h2⟩ := IsL.get (i := i) (d := d) t (by simpa using h)
    exact ⟨v, by simpa using h1, h2⟩
theorem IsL.getV : ∀ {vs : List V} {ds : List D} {i : Nat} {v : V}, IsL K cl F ca vs ds → vs[i]? = some v → ∃ d, ds[i]? = some d ∧ Is K cl F ca v d
  | _, _, _, _, .nil, h => by simp at h
  | _, _, 0, _, .cons r t, h => by
    simp at h
    subst h
    exact ⟨_, rfl, r⟩
  | _, _, i + 1, v, .cons r t, h => by
    obtain ⟨d, h1, h2⟩ := IsL.getV (i := i) (v := v) t (by simpa using h)
    exact ⟨d, by simpa using h1, h2⟩
theorem IsL.app : ∀ {vs ws : List V} {ds es : List D}, IsL K cl F ca vs ds → IsL K cl F ca ws es → IsL K cl F ca (vs ++ ws) (ds ++ es)
  | _, _, _, _, .nil, s => s
  | _, _, _, _, .cons r t, s => .cons r (IsL.app t s)
theorem IsL.one {v : V} {d : D} (h : Is K cl F ca v d) : IsL K cl F ca [v] [d] := .cons h .nil
theorem IsL.take : ∀ {vs : List V} {ds : List D} (n : Nat), IsL K cl F ca vs ds → IsL K cl F ca (vs.take n) (ds.take n)
  | _, _, 0, _ => .nil
  | _, _, _ + 1, .nil => .nil
  | _, _, n + 1, .cons r t => .cons r (IsL.take n t)
theorem IsL.drop : ∀ {vs : List V} {ds : List D} (n : Nat), IsL K cl F ca vs ds → IsL K cl F ca (vs.drop n) (ds.drop n)
  | _, _, 0, r => r
  | _, _, _ + 1, .nil => .nil
  | _, _, n + 1, .cons r t => IsL.drop n t
theorem IsL.set {v : V} {d : D} (h : Is K cl F ca v d) : ∀ {vs : List V} {ds : List D} (n : Nat), IsL K cl F ca vs ds → IsL K cl F ca (vs.set n v) (ds.set n d)
  | _, _, _, .nil => .nil
  | _, _, 0, .cons r t => .cons h t
  | _, _, n + 1, .cons r t => .cons r (IsL.set h n t)
theorem IsL.rev {vs : List V} {ds : List D} (h : IsL K cl F ca vs ds) : IsL K cl F ca vs.reverse ds.reverse := by
  induction vs generalizing ds with
  | nil =>
    cases h
    exact .nil
  | cons v vs ih =>
    cases h with
    | cons r t =>
      rw [List.reverse_cons, List.reverse_cons]
      exact (ih t).app (.one r)
theorem IsL.rep {v : V} {d : D} (h : Is K cl F ca v d) : ∀ n : Nat, IsL K cl F ca (List.replicate n v) (List.replicate n d)
  | 0 => .nil
  | n + 1 => .cons h (IsL.rep h n)
theorem isL_ints : ∀ ns : List Int, IsL K cl F ca (ns.map V.int) (ns.map D.int)
  | [] => .nil
  | n :: ns => .cons (.int n) (isL_ints ns)
theorem isL_bls : ∀ ns : List Bool, IsL K cl F ca (ns.map V.bl) (ns.map D.bl)
  | [] => .nil
  | n :: ns => .cons (.bl n) (isL_bls ns)
theorem of_ints : ∀ {vs : List V} {ns : List Int}, IsL K cl F ca vs (ns.map D.int) → vs = ns.map V.int
  | _, [], .nil => rfl
  | _, n :: ns, .cons (.int _) t => by rw [of_ints t] <;> rfl
theorem of_bls : ∀ {vs : List V} {ns : List Bool}, IsL K cl F ca vs (ns.map D.bl) → vs = ns.map V.bl
  | _, [], .nil => rfl
  | _, n :: ns, .cons (.bl _) t => by rw [of_bls t] <;> rfl
theorem of_strs : ∀ {vs : List V} {ns : List Str}, IsL K cl F ca vs (ns.map D.str) → vs = ns.map V.str
  | _, [], .nil => rfl
  | _, n :: ns, .cons (.str _) t => by rw [of_strs t] <;> rfl
end

/-- the cell at a holds c -/
def CellOk (K : PySem.W.Frag) (cl : Cl) (F H : Hp) (ca : List Addr) (a : Addr) : Cell → Prop
  | .gone => ∃ o, H a = some o
  | .lst xs => F a = none ∧ ∃ vs, H a = some (.lst vs) ∧ IsL K cl F ca vs xs
  | .ins c fs => F a = none ∧ ∃ dx vs, H a = some (.ins (cl c) dx vs) ∧ IsF K cl F ca vs fs
  | .dic kvs => F a = none ∧ ∃ vs, H a = some (.dK vs) ∧ IsK K cl F ca vs kvs
def CeOk (K : PySem.W.Frag) (cl : Cl) (F H : Hp) (ca : List Addr) (ce : List Cell) : Prop :=
  ca.length = ce.length ∧ ca.Nodup ∧ ∀ (j : Nat) (a : Addr) (c : Cell), ca[j]? = some a → ce[j]? = some c → CellOk K cl F H ca a c

/-- where a def was entered: what was fixed, the heap, the cells -/
structure Ent where
  F0 : Hp
  H0 : Hp
  ca0 : List Addr

/-- the state of a body, since its entry -/
structure B (K : PySem.W.Frag) (cl : Cl) (e : Ent) (F H : Hp) (ca : List Addr) (σ : L2.St) (s : S) : Prop where
  fh : Ex F H
  exF : Ex e.F0 F
  keep : ∀ b o, e.H0 b = some o → b ∉ e.ca0 → H b = some o
  free : ∀ b o, e.H0 b = some o → e.F0 b = none → F b = none
  pre : Pre e.ca0 ca
  newc : ∀ a, a ∈ ca → a ∈ e.ca0 ∨ e.H0 a = none
  cel : CeOk K cl F H ca s.ce
  len : s.sl.length = σ.length
  slo : ∀ (i : Nat) (d : D), s.sl[i]? = some (some d) → ∃ v, σ[i]? = some (some v) ∧ Is K cl F ca v d
  hcl : ∀ b o, e.H0 b = some o → ∃ o', H b = some o'
  n0 : e.ca0.length = s.n0

/-- a list just made, an instance just made: nobody else's -/
def NL (K : PySem.W.Frag) (cl : Cl) (e : Ent) (F H : Hp) (ca : List Addr) (v : V) (xs : List D) : Prop := ∃ a vs, v = .ref a ∧ H a = some (.lst vs) ∧ IsL K cl F ca vs xs ∧ F a = none ∧ a ∉ ca ∧ e.H0 a = none
def NI (K : PySem.W.Frag) (cl : Cl) (e : Ent) (F H : Hp) (ca : List Addr) (v : V) (c : Nat) (fs : List (Str × D)) : Prop := ∃ a dx vs, v = .ref a ∧ H a = some (.ins (cl c) dx vs) ∧ IsF K cl F ca vs fs ∧ F a = none ∧ a ∉ ca ∧ e.H0 a = none
/-- an exception as the heap has it -/
def XOk (K : PySem.W.Frag) (cl : Cl) (F H : Hp) (ca : List Addr) (cls : Value) (dd : Option Addr) (x : Xc) : Prop :=
  cls = .ref (cl x.cls) ∧ match x.fs with
    | [] => dd = none
    | fs => ∃ a vs, dd = some a ∧ H a = some (.xd vs) ∧ IsF K cl F ca vs fs

section
variable (K : PySem.W.Frag) (cl : Cl) (e : Ent) (W : WX)
/-- the reading of an expression by what it gives: what is wished of its result -/
def rdK (σ : L2.St) (F : Hp) (ca : List Addr) (Q : VK) : R → Prop
  | .ok d s' => ∀ v F' H' ca', B K cl e F' H' ca' σ s' → Ex F F' → Pre ca ca' → Is K cl F' ca' v d → Q v H'
  | .nl xs s' => ∀ v F' H' ca', B K cl e F' H' ca' σ s' → Ex F F' → Pre ca ca' → NL K cl e F' H' ca' v xs → Q v H'
  | .ni c fs s' => ∀ v F' H' ca', B K cl e F' H' ca' σ s' → Ex F F' → Pre ca ca' → NI K cl e F' H' ca' v c fs → Q v H'
  | .er x s' => ∀ cls dd F' H' ca', B K cl e F' H' ca' σ s' → XOk K cl F' H' ca' cls dd x → W cls dd σ H'
  | .no => False
def rd (f : DE) : TE := fun σ H Q => ∃ F ca s, B K cl e F H ca σ s ∧ rdK K cl e W σ F ca Q (f s)
def rdAK (σ : L2.St) (F : Hp) (ca : List Addr) (Q : List V → Hp → Prop) : RA → Prop
  | .ok ds s' => ∀ vs F' H' ca', B K cl e F' H' ca' σ s' → Ex F F' → Pre ca ca' → IsL K cl F' ca' vs ds → Q vs H'
  | .er x s' => ∀ cls dd F' H' ca', B K cl e F' H' ca' σ s' → XOk K cl F' H' ca' cls dd x → W cls dd σ H'
  | .no => False
def rdA (f : DA) : TA := fun σ H Q => ∃ F ca s, B K cl e F H ca σ s ∧ rdAK K cl e W σ F ca Q (f s)
def rdBK (σ : L2.St) (F : Hp) (ca : List Addr) (Q : Bool → Hp → Prop) : RB → Prop
  | .ok b s' => ∀ F' H' ca', B K cl e F' H' ca' σ s' → Ex F F' → Pre ca ca' → Q b H'
  | .er x s' => ∀ cls dd F' H' ca', B K cl e F' H' ca' σ s' → XOk K cl F' H' ca' cls dd x → W cls dd σ H'
  | .no => False
def rdB (f : DB) : TT := fun σ H Q => ∃ F ca s, B K cl e F H ca σ s ∧ rdBK K cl e W σ F ca Q (f s)
def rdSK (F : Hp) (ca : List Addr) (Dn : Ends) : O → Prop
  | .nx s' => ∀ σ' F' H' ca', B K cl e F' H' ca' σ' s' → Ex F F' → Pre ca ca' → Dn.nx σ' H'
  | .bk s' => ∀ σ' F' H' ca', B K cl e F' H' ca' σ' s' → Ex F F' → Pre ca ca' → Dn.bk σ' H'
  | .ct s' => ∀ σ' F' H' ca', B K cl e F' H' ca' σ' s' → Ex F F' → Pre ca ca' → Dn.ct σ' H'
  | .rt d s' => ∀ v σ' F' H' ca', B K cl e F' H' ca' σ' s' → Ex F F' → Pre ca ca' → Is K cl F' ca' v d → Dn.rt v H'
  | .rl xs s' => ∀ v σ' F' H' ca', B K cl e F' H' ca' σ' s' → Ex F F' → Pre ca ca' → NL K cl e F' H' ca' v xs → Dn.rt v H'
  | .ri c fs s' => ∀ v σ' F' H' ca', B K cl e F' H' ca' σ' s' → Ex F F' → Pre ca ca' → NI K cl e F' H' ca' v c fs → Dn.rt v H'
  | .er x s' => ∀ cls dd σ' F' H' ca', B K cl e F' H' ca' σ' s' → XOk K cl F' H' ca' cls dd x → W cls dd σ' H'
  | .no => False
def rdS (f : DS) : TS := fun Dn σ H => ∃ F ca s, B K cl e F H ca σ s ∧ rdSK K cl e W F ca Dn (f s)
end
/-! the wish is kept where the start grows -/
section
variable {K : PySem.W.Frag} {cl : Cl} {e : Ent} {W : WX} {F F1 : Hp} {ca ca1 : List Addr} {σ : L2.St}
theorem rdK.back (eF : Ex F F1) (pr : Pre ca ca1) {Q : VK} {r : R} (h : rdK K cl e W σ F ca Q r) : rdK K cl e W σ F1 ca1 Q r := by
  cases r with
  | ok d s => exact fun v F' H' ca' b x p => h v F' H' ca' b (eF.trans x) (pr.trans p)
  | nl d s => exact fun v F' H' ca' b x p => h v F' H' ca' b (eF.trans x) (pr.trans p)
  | ni c d s => exact fun v F' H' ca' b x p => h v F' H' ca' b (eF.trans x) (pr.trans p)
  | er x s => exact h
  | no => exact h
theorem rdAK.back (eF : Ex F F1) (pr : Pre ca ca1) {Q : List V → Hp → Prop} {r : RA} (h : rdAK K cl e W σ F ca Q r) : rdAK K cl e W σ F1 ca1 Q r := by
  cases r with
  | ok d s => exact fun v F' H' ca' b x p => h v F' H' ca' b (eF.trans x) (pr.trans p)
  | er x s => exact h
  | no => exact h
theorem rdBK.back (eF : Ex F F1) (pr : Pre ca ca1) {Q : Bool → Hp → Prop} {r : RB} (h : rdBK K cl e W σ F ca Q r) : rdBK K cl e W σ F1 ca1 Q r := by
  cases r with
  | ok d s => exact fun F' H' ca' b x p => h F' H' ca' b (eF.trans x) (pr.trans p)
  | er x s => exact h
  | no => exact h
theorem rdSK.back (eF : Ex F F1) (pr : Pre ca ca1) {Dn : Ends} {r : O} (h : rdSK K cl e W F ca Dn r) : rdSK K cl e W F1 ca1 Dn r := by
  cases r with
  | nx s => exact fun σ' F' H' ca' b x p => h σ' F' H' ca' b (eF.trans x) (pr.trans p)
  | bk s => exact fun σ' F' H' ca' b x p => h σ' F' H' ca' b (eF.trans x) (pr.trans p)
  | ct s => exact fun σ' F' H' ca' b x p => h σ' F' H' ca' b (eF.trans x) (pr.trans p)
  | rt d s => exact fun v σ' F' H' ca' b x p => h v σ' F' H' ca' b (eF.trans x) (pr.trans p)
  | rl d s => exact fun v σ' F' H' ca' b x p => h v σ' F' H' ca' b (eF.trans x) (pr.trans p)
  | ri c d s => exact fun v σ' F' H' ca' b x p => h v σ' F' H' ca' b (eF.trans x) (pr.trans p)
  | er x s => exact h
  | no => exact h
end
end Dv
set_option maxRecDepth 100000
set_option maxHeartbeats 4000000
/-! the state's lemmas; values, operators, tests, displays -/
namespace Dv
open PySem PySem.Spec PyProof.Rows L2

section
variable {K : PySem.W.Frag} {cl : Cl} {e : Ent} {F F' H H' : Hp} {ca ca' : List Addr} {σ : L2.St} {s : S} {p a : Addr} {o : HO}
theorem CellOk.there {c : Cell} (h : CellOk K cl F H ca a c) : ∃ o, H a = some o := by
  cases c with
  | gone => exact h
  | lst xs =>
    obtain ⟨_, vs, h, _⟩ := h
    exact ⟨_, h⟩
  | ins c fs =>
    obtain ⟨_, dx, vs, h, _⟩ := h
    exact ⟨_, h⟩
  | dic kvs =>
    obtain ⟨_, vs, h, _⟩ := h
    exact ⟨_, h⟩
theorem CellOk.mono {c : Cell} (h : CellOk K cl F H ca a c) (eF : Ex F F') (hF : F a = none → F' a = none) (eH : H' a = H a) (pr : Pre ca ca') : CellOk K cl F' H' ca' a c := by
  cases c with
  | gone =>
    obtain ⟨o, h⟩ := h
    exact ⟨o, eH.trans h⟩
  | lst xs =>
    obtain ⟨h0, vs, h, i⟩ := h
    exact ⟨hF h0, vs, eH.trans h, i.mono eF pr⟩
  | ins c fs =>
    obtain ⟨h0, dx, vs, h, i⟩ := h
    exact ⟨hF h0, dx, vs, eH.trans h, i.mono eF pr⟩
  | dic kvs =>
    obtain ⟨h0, vs, h, i⟩ := h
    exact ⟨hF h0, vs, eH.trans h, i.mono eF pr⟩
theorem CeOk.at_ (h : CeOk K cl F H ca s.ce) {j : Nat} (hj : ca[j]? = some a) : ∃ c, s.ce[j]? = some c ∧ CellOk K cl F H ca a c := by
  have hl : j < s.ce.length := by rw [← h.1]; exact (List.getElem?_eq_some_iff.mp hj).1
  exact ⟨s.ce[j], List.getElem?_eq_getElem hl, h.2.2 j a _ hj (List.getElem?_eq_getElem hl)⟩
theorem CeOk.mem (h : CeOk K cl F H ca s.ce) (ha : a ∈ ca) : ∃ o, H a = some o := by
  obtain ⟨j, hj⟩ := List.mem_iff_getElem?.mp ha
  obtain ⟨c, _, x⟩ := h.at_ hj
  exact x.there
theorem B.notca (b : B K cl e F H ca σ s) (h : H p = none) : p ∉ ca := fun hp => by
  obtain ⟨o, q⟩ := b.cel.mem hp
  rw [h] at q
  cases q
theorem B.notF (b : B K cl e F H ca σ s) (h : H p = none) : F p = none := by
  cases q : F p with
  | none => rfl
  | some o =>
    rw [b.fh p o q] at h
    cases h
theorem B.notH0 (b : B K cl e F H ca σ s) (h : H p = none) : e.H0 p = none := by
  cases q : e.H0 p with
  | none => rfl
  | some o =>
    obtain ⟨o', z⟩ := b.hcl p o q
    rw [h] at z
    cases z
/-- a new object, nobody's yet -/
theorem B.laid (b : B K cl e F H ca σ s) (h : H p = none) : B K cl e F (upd H p o) ca σ s where
  fh := fun c u q => by rw [upd_ne (ne_of_none (b.fh c u q) h)]; exact b.fh c u q
  exF := b.exF
  keep := fun c u q n => by rw [upd_ne (ne_of_none q (b.notH0 h))]; exact b.keep c u q n
  free := b.free
  pre := b.pre
  newc := b.newc
  cel := ⟨b.cel.1, b.cel.2.1, fun j c x h1 h2 => (b.cel.2.2 j c x h1 h2).mono (Ex.refl F) id (upd_ne fun z => b.notca h (z ▸ List.mem_of_getElem? h1)) (Pre.refl ca)⟩
  len := b.len
  slo := b.slo
  hcl := fun c u q => by
    obtain ⟨o', z⟩ := b.hcl c u q
    exact ⟨o', by rw [upd_ne (ne_of_none q (b.notH0 h))]; exact z⟩
  n0 := b.n0
/-- a pending object is fixed -/
theorem B.fix (b : B K cl e F H ca σ s) (hp : H p = some o) (hF : F p = none) (hc : p ∉ ca) (h0 : e.H0 p = none) : B K cl e (upd F p o) H ca σ s where
  fh := fun c u q => by
    by_cases z : c = p
    · subst z
      rw [upd_same] at q
      rw [← q]
      exact hp
    · rw [upd_ne z] at q
      exact b.fh c u q
  exF := fun c u q => by rw [upd_ne (ne_of_none (b.exF c u q) hF)]; exact b.exF c u q
  keep := b.keep
  free := fun c u q n => by
    rw [upd_ne (ne_of_none q h0)]
    exact b.free c u q n
  pre := b.pre
  newc := b.newc
  cel := ⟨b.cel.1, b.cel.2.1, fun j c x h1 h2 => (b.cel.2.2 j c x h1 h2).mono (Ex.new hF) (fun n => by
      have z : c ≠ p := fun z => by
        subst z
        exact hc (List.mem_of_getElem? h1)
      rw [upd_ne z]
      exact n) rfl (Pre.refl ca)⟩
  len := b.len
  slo := fun i d q => by
    obtain ⟨v, h1, h2⟩ := b.slo i d q
    exact ⟨v, h1, h2.mono (Ex.new hF) (Pre.refl ca)⟩
  hcl := b.hcl
  n0 := b.n0
/-- a pending object becomes a cell -/
theorem B.cell {c : Cell} (b : B K cl e F H ca σ s) (hx : CellOk K cl F H ca p c) (hc : p ∉ ca) (h0 : e.H0 p = none) : B K cl e F H (ca ++ [p]) σ ⟨s.sl, s.ce ++ [c], s.n0⟩ where
  fh := b.fh
  exF := b.exF
  keep := b.keep
  free := b.free
  pre := b.pre.trans (Pre.app ca [p])
  newc := fun x hx => by
    rcases List.mem_append.mp hx with z | z
    · exact b.newc x z
    · have : x = p := by simpa using z
      subst this
      exact .inr h0
  cel := by
    refine ⟨by rw [List.length_append, List.length_append, b.cel.1] <;> rfl, ?_, fun j x y h1 h2 => ?_⟩
    · rw [List.nodup_append]
      exact ⟨b.cel.2.1, by simp, fun x hm y hy z => by
        have : y = p := by simpa using hy
        subst this
        subst z
        exact hc hm⟩
    · by_cases hj : j < ca.length
      · rw [List.getElem?_append_left hj] at h1
        rw [List.getElem?_append_left (by rw [← b.cel.1]; exact hj)] at h2
        exact (b.cel.2.2 j x y h1 h2).mono (Ex.refl F) id rfl (Pre.app ca [p])
      · have hj' : ca.length ≤ j := Nat.le_of_not_lt hj
        rw [List.getElem?_append_right hj'] at h1
        rw [List.getElem?_append_right (by rw [← b.cel.1]; exact hj'), ← b.cel.1] at h2
        cases q : j - ca.length with
        | zero =>
          rw [q] at h1 h2
          simp at h1 h2
          subst h1
          subst h2
          exact hx.mono (Ex.refl F) id rfl (Pre.app ca [p])
        | succ n =>
          rw [q] at h1
          simp at h1
  len := b.len
  slo := fun i d q => by
    obtain ⟨v, h1, h2⟩ := b.slo i d q
    exact ⟨v, h1, h2.mono (Ex.refl F) (Pre.app ca [p])⟩
  hcl := b.hcl
  n0 := b.n0
/-- a slot is stored -/
theorem B.put {i : Nat} {v : V} {d : D} (b : B K cl e F H ca σ s) (h : Is K cl F ca v d) : B K cl e F H ca (σ.set i (some v)) ⟨s.sl.set i (some d), s.ce, s.n0⟩ :=
  { fh := b.fh, exF := b.exF, keep := b.keep, free := b.free, pre := b.pre, newc := b.newc, cel := b.cel,
    len := by rw [List.length_set, List.length_set]; exact b.len,
    slo := fun j x q => by
      by_cases z : j = i
      · subst z
        by_cases hj : j < s.sl.length
        · rw [List.getElem?_set_self hj] at q
          have e1 : d = x := Option.some.inj (Option.some.inj q)
          subst e1
          exact ⟨v, by rw [List.getElem?_set_self (by rw [← b.len]; exact hj)], h⟩
        · rw [List.getElem?_eq_none (by rw [List.length_set]; omega)] at q
          cases q
      · rw [List.getElem?_set_ne (Ne.symm z)] at q
        obtain ⟨w, h1, h2⟩ := b.slo j x q
        exact ⟨w, by rw [List.getElem?_set_ne (Ne.symm z)]; exact h1, h2⟩,
    hcl := b.hcl, n0 := b.n0 }
/-- slots forgotten: whatever the state says of fewer of them -/
theorem B.less {σ' : L2.St} {sl' : List (Option D)} (b : B K cl e F H ca σ s) (hl : sl'.length = σ'.length) (h : ∀ (i : Nat) (d : D), sl'[i]? = some (some d) → ∃ v, σ'[i]? = some (some v) ∧ Is K cl F ca v d) : B K cl e F H ca σ' ⟨sl', s.ce, s.n0⟩ :=
  { fh := b.fh, exF := b.exF, keep := b.keep, free := b.free, pre := b.pre, newc := b.newc, cel := b.cel, len := hl, slo := h, hcl := b.hcl, n0 := b.n0 }
/-- a cell is written -/
theorem B.write {j : Nat} {c : Cell} (b : B K cl e F H ca σ s) (hj : ca[j]? = some a) (hF : F a = none) (new : CellOk K cl F (upd H a o) ca a c) : B K cl e F (upd H a o) ca σ ⟨s.sl, s.ce.set j c, s.n0⟩ where
  fh := fun x u q => by rw [upd_ne (ne_of_none q hF)]; exact b.fh x u q
  exF := b.exF
  keep := fun x u q n => by
    have hx : x ≠ a := fun z => by
      subst z
      rcases b.newc x (List.mem_of_getElem? hj) with w | w
      · exact n w
      · rw [q] at w
        cases w
    rw [upd_ne hx]
    exact b.keep x u q n
  free := b.free
  pre := b.pre
  newc := b.newc
  cel := by
    refine ⟨by rw [List.length_set]; exact b.cel.1, b.cel.2.1, fun k x y h1 h2 => ?_⟩
    by_cases z : k = j
    · subst z
      rw [h1] at hj
      cases hj
      have hk : k < s.ce.length := by rw [← b.cel.1]; exact (List.getElem?_eq_some_iff.mp h1).1
      rw [List.getElem?_set_self hk] at h2
      cases h2
      exact new
    · rw [List.getElem?_set_ne (Ne.symm z)] at h2
      have hx : x ≠ a := fun w => by
        subst w
        obtain ⟨l1, e1⟩ := List.getElem?_eq_some_iff.mp h1
        obtain ⟨l2, e2⟩ := List.getElem?_eq_some_iff.mp hj
        exact z ((List.getElem_inj b.cel.2.1).mp (e1.trans e2.symm))
      exact (b.cel.2.2 k x y h1 h2).mono (Ex.refl F) id (upd_ne hx) (Pre.refl ca)
  len := b.len
  slo := b.slo
  hcl := fun x u q => by
    by_cases z : x = a
    · subst z
      exact ⟨o, upd_same⟩
    · obtain ⟨o', w⟩ := b.hcl x u q
      exact ⟨o', by rw [upd_ne z]; exact w⟩
  n0 := b.n0
/-- a cell of the body's own -/
theorem B.own {j : Nat} (b : B K cl e F H ca σ s) (hj : ca[j]? = some a) (h : s.n0 ≤ j) : a ∉ e.ca0 := fun hm => by
  obtain ⟨i, hi⟩ := List.mem_iff_getElem?.mp hm
  obtain ⟨l1, e1⟩ := List.getElem?_eq_some_iff.mp (b.pre i a hi)
  obtain ⟨l2, e2⟩ := List.getElem?_eq_some_iff.mp hj
  have z := (List.getElem_inj b.cel.2.1).mp (e1.trans e2.symm)
  have l3 := (List.getElem?_eq_some_iff.mp hi).1
  rw [b.n0] at l3
  omega
theorem B.freeze {j : Nat} (b : B K cl e F H ca σ s) (hj : ca[j]? = some a) (hn : a ∉ e.ca0) (hF : F a = none) (hH : H a = some o) : B K cl e (upd F a o) H ca σ ⟨s.sl, s.ce.set j .gone, s.n0⟩ where
  fh := fun c u q => by
    by_cases z : c = a
    · subst z
      rw [upd_same] at q
      rw [← q]
      exact hH
    · rw [upd_ne z] at q
      exact b.fh c u q
  exF := fun c u q => by rw [upd_ne (ne_of_none (b.exF c u q) hF)]; exact b.exF c u q
  keep := b.keep
  free := fun c u q n => by
    have hx : c ≠ a := fun z => by
      subst z
      rcases b.newc c (List.mem_of_getElem? hj) with w | w
      · exact hn w
      · rw [q] at w
        cases w
    rw [upd_ne hx]
    exact b.free c u q n
  pre := b.pre
  newc := b.newc
  cel := by
    refine ⟨by rw [List.length_set]; exact b.cel.1, b.cel.2.1, fun k x y h1 h2 => ?_⟩
    by_cases z : k = j
    · subst z
      rw [h1] at hj
      cases hj
      have hk : k < s.ce.length := by rw [← b.cel.1]; exact (List.getElem?_eq_some_iff.mp h1).1
      rw [List.getElem?_set_self hk] at h2
      cases h2
      exact ⟨o, hH⟩
    · rw [List.getElem?_set_ne (Ne.symm z)] at h2
      have hx : x ≠ a := fun w => by
        subst w
        obtain ⟨l1, e1⟩ := List.getElem?_eq_some_iff.mp h1
        obtain ⟨l2, e2⟩ := List.getElem?_eq_some_iff.mp hj
        exact z ((List.getElem_inj b.cel.2.1).mp (e1.trans e2.symm))
      exact (b.cel.2.2 k x y h1 h2).mono (Ex.new hF) (fun n => by rw [upd_ne hx]; exact n) rfl (Pre.refl ca)
  len := b.len
  slo := fun i d q => by
    obtain ⟨v, h1, h2⟩ := b.slo i d q
    exact ⟨v, h1, h2.mono (Ex.new hF) (Pre.refl ca)⟩
  hcl := b.hcl
  n0 := b.n0

def cellL : Option Cell → Option (List D)
  | some (.lst xs) => some xs
  | _ => none
/-- the items of a list, fixed or a cell -/
def look (ce : List Cell) : D → Option (List D)
  | .lst xs => some xs
  | .ro xs => some xs
  | .rf j => cellL ce[j]?
  | _ => none
theorem look_ok {v : V} {d : D} {xs : List D} (b : B K cl e F H ca σ s) (h : Is K cl F ca v d) (q : look s.ce d = some xs) : ∃ a vs, v = .ref a ∧ SqL K H a vs ∧ IsL K cl F ca vs xs := by
  cases h with
  | lst hl hi =>
    cases q
    exact ⟨_, _, rfl, SqL.of (b.fh _ _ hl), hi⟩
  | ro hl hi =>
    cases q
    exact ⟨_, _, rfl, ex_l b.fh hl, hi⟩
  | rf hj =>
    obtain ⟨c, h1, h2⟩ := b.cel.at_ hj
    have q' : cellL s.ce[_]? = some xs := q
    rw [h1] at q'
    cases c with
    | lst ys =>
      cases q'
      obtain ⟨_, vs, e1, e2⟩ := h2
      exact ⟨_, vs, rfl, SqL.of e1, e2⟩
    | _ => cases q'
  | _ => cases q
/-- .. that is tracked as it stands -/
def lookT (ce : List Cell) : D → Option (List D)
  | .lst xs => some xs
  | .rf j => cellL ce[j]?
  | _ => none
theorem lookT_ok {v : V} {d : D} {xs : List D} (b : B K cl e F H ca σ s) (h : Is K cl F ca v d) (q : lookT s.ce d = some xs) : ∃ a vs, v = .ref a ∧ H a = some (.lst vs) ∧ IsL K cl F ca vs xs := by
  cases h with
  | lst hl hi =>
    cases q
    exact ⟨_, _, rfl, b.fh _ _ hl, hi⟩
  | rf hj =>
    obtain ⟨c, h1, h2⟩ := b.cel.at_ hj
    have q' : cellL s.ce[_]? = some xs := q
    rw [h1] at q'
    cases c with
    | lst ys =>
      cases q'
      obtain ⟨_, vs, e1, e2⟩ := h2
      exact ⟨_, vs, rfl, e1, e2⟩
    | _ => cases q'
  | _ => cases q
/-- a list cell to be written -/
theorem cell_ok {v : V} {j : Nat} {xs : List D} (b : B K cl e F H ca σ s) (h : Is K cl F ca v (.rf j)) (q : s.ce[j]? = some (.lst xs)) : ∃ a vs, v = .ref a ∧ ca[j]? = some a ∧ H a = some (.lst vs) ∧ IsL K cl F ca vs xs ∧ F a = none := by
  cases h with
  | rf hj =>
    obtain ⟨c, h1, h2⟩ := b.cel.at_ hj
    rw [q] at h1
    cases h1
    obtain ⟨h0, vs, e1, e2⟩ := h2
    exact ⟨_, vs, rfl, hj, e1, e2, h0⟩
end

/-! ### weakening -/
section
variable {X : Cx}
theorem pe_w {x : Expr} {t t' : TE} (h : PE X x t) (w : ∀ σ H Q, t' σ H Q → t σ H Q) : PE X x t' := ⟨fun pins s σ H Q I q => h.run pins s σ H Q I (w σ H Q q)⟩
theorem pt_w {x : Expr} {t t' : TT} (h : PT X x t) (w : ∀ σ H Q, t' σ H Q → t σ H Q) : PT X x t' := ⟨fun pins s σ H Q I q => h.run pins s σ H Q I (w σ H Q q)⟩
theorem pw_w {x : Expr} {t t' : TT} (h : PW X x t) (w : ∀ σ H Q, t' σ H Q → t σ H Q) : PW X x t' := ⟨fun wh pins s σ H Q I q => h.run wh pins s σ H Q I (w σ H Q q)⟩
theorem pa_w {x : List Expr} {t t' : TA} (h : PA X x t) (w : ∀ σ H Q, t' σ H Q → t σ H Q) : PA X x t' := ⟨fun pos pins s σ H Q I q => h.run pos pins s σ H Q I (w σ H Q q)⟩
theorem ps_w {x : Stmt} {t t' : TS} (h : PS X x t) (w : ∀ D σ H, t' D σ H → t D σ H) : PS X x t' := ⟨fun pins s σ H D I q => h.run pins s σ H D I (w D σ H q)⟩
theorem pss_w {x : List Stmt} {t t' : TS} (h : PSs X x t) (w : ∀ D σ H, t' D σ H → t D σ H) : PSs X x t' := ⟨fun pins s σ H D I q => h.run pins s σ H D I (w D σ H q)⟩
end
end Dv
set_option maxRecDepth 100000
set_option maxHeartbeats 4000000
namespace Dv
open PySem PySem.Spec PyProof.Rows L2

/-! ### what they mean -/
def dVar (i : Nat) : DE := fun s => match s.sl[i]? with
  | some (some d) => .ok d s
  | _ => .no
def dC (d : D) : DE := fun s => .ok d s
/-- the cell in slot i becomes data -/
def shareC (i j : Nat) (s : S) : Option Cell → R
  | some (.lst xs) => .ok (.lst xs) ⟨s.sl.set i (some (.lst xs)), s.ce.set j .gone, s.n0⟩
  | some (.ins c fs) => .ok (.obj c fs) ⟨s.sl.set i (some (.obj c fs)), s.ce.set j .gone, s.n0⟩
  | _ => .no
def shareK (i : Nat) (s : S) : D → R
  | .rf j => if s.n0 ≤ j then shareC i j s s.ce[j]? else .no
  | d => .ok d s
def dShare (i : Nat) : DE := fun s => match s.sl[i]? with
  | some (some d) => shareK i s d
  | _ => .no
/-- a new thing is data from now on | is a cell -/
def fzK : R → R
  | .nl xs s => .ok (.lst xs) s
  | .ni c fs s => .ok (.obj c fs) s
  | r => r
def dFz (f : DE) : DE := fun s => fzK (f s)
def ceK : R → R
  | .nl xs s => .ok (.rf s.ce.length) ⟨s.sl, s.ce ++ [.lst xs], s.n0⟩
  | .ni c fs s => .ok (.rf s.ce.length) ⟨s.sl, s.ce ++ [.ins c fs], s.n0⟩
  | r => r
def dCe (f : DE) : DE := fun s => ceK (f s)
/-- what two values give: a value, a new list -/
inductive Po where
  | v (d : D)
  | l (xs : List D)
  | no
def poK (s : S) : Po → R
  | .v d => .ok d s
  | .l xs => .nl xs s
  | .no => .no
def bindR : R → (D → S → R) → R
  | .ok d s, k => k d s
  | .er x s, _ => .er x s
  | _, _ => .no
def dOp (p : List Cell → D → D → Po) (f g : DE) : DE := fun s => bindR (f s) fun d1 s1 => bindR (g s1) fun d2 s2 => poK s2 (p s2.ce d1 d2)
def dUn (p : List Cell → D → Po) (f : DE) : DE := fun s => bindR (f s) fun d1 s1 => poK s1 (p s1.ce d1)
def bindRA : R → (D → S → RA) → RA
  | .ok d s, k => k d s
  | .er x s, _ => .er x s
  | _, _ => .no
def bindA : RA → (List D → S → RA) → RA
  | .ok d s, k => k d s
  | .er x s, _ => .er x s
  | _, _ => .no
def bindAR : RA → (List D → S → R) → R
  | .ok d s, k => k d s
  | .er x s, _ => .er x s
  | _, _ => .no
def aNil : DA := fun s => .ok [] s
def aCons (f : DE) (g : DA) : DA := fun s => bindRA (f s) fun d s1 => bindA (g s1) fun ds s2 => .ok (d :: ds) s2
/-- a built-in by values -/
def dBi (p : List Cell → List D → Po) (g : DA) : DE := fun s => bindAR (g s) fun ds s1 => poK s1 (p s1.ce ds)
def dLst (g : DA) : DE := fun s => bindAR (g s) fun ds s1 => if ds.length ≤ 100000 then .nl ds s1 else .no
def dTup (g : DA) : DE := fun s => bindAR (g s) fun ds s1 => if ds.length ≤ 100000 then .ok (.tup ds) s1 else .no
def bindRB : R → (D → S → RB) → RB
  | .ok d s, k => k d s
  | .er x s, _ => .er x s
  | _, _ => .no
def bindB : RB → (Bool → S → RB) → RB
  | .ok d s, k => k d s
  | .er x s, _ => .er x s
  | _, _ => .no
def bindBR : RB → (Bool → S → R) → R
  | .ok d s, k => k d s
  | .er x s, _ => .er x s
  | _, _ => .no
def blK (s : S) : D → RB
  | .bl b => .ok b s
  | _ => .no
def bTest (f : DE) : DB := fun s => bindRB (f s) fun d s1 => blK s1 d
/-- a value's truth -/
def truD (ce : List Cell) : D → Option Bool
  | .non => some false
  | .bl b => some b
  | .int i => some (i != 0)
  | .str y => if y.length ≤ 100000 then some ((y.length : Int) != 0) else none
  | .lst xs => some (!xs.isEmpty)
  | .tup xs => some (!xs.isEmpty)
  | .rf j => match cellL ce[j]? with
    | some xs => some (!xs.isEmpty)
    | none => none
  | _ => none
def truK (s : S) : Option Bool → RB
  | some b => .ok b s
  | none => .no
def bTru (f : DE) : DB := fun s => bindRB (f s) fun d s1 => truK s1 (truD s1.ce d)
def bAnd (f g : DB) : DB := fun s => bindB (f s) fun b s1 => if b = true then g s1 else .ok false s1
def bOr (f g : DB) : DB := fun s => bindB (f s) fun b s1 => if b = true then .ok true s1 else g s1
def bNot (f : DB) : DB := fun s => bindB (f s) fun b s1 => .ok (!b) s1
def dIf (c : DB) (f g : DE) : DE := fun s => bindBR (c s) fun b s1 => if b = true then f s1 else g s1
def blD (s : S) (k : Bool → R) : D → R
  | .bl b => k b
  | _ => .no
def dAnd (f g : DE) : DE := fun s => bindR (f s) fun d s1 => blD s1 (fun b => if b = true then g s1 else .ok (.bl false) s1) d
def dOr (f g : DE) : DE := fun s => bindR (f s) fun d s1 => blD s1 (fun b => if b = true then .ok (.bl true) s1 else g s1) d
def dNot (f : DE) : DE := fun s => bindR (f s) fun d s1 => blD s1 (fun b => .ok (.bl (!b)) s1) d

section
variable {X : Cx} {cl : Cl} {e : Ent} {W : WX}
abbrev PEd (X : Cx) (cl : Cl) (e : Ent) (W : WX) (x : Expr) (f : DE) : Prop := PE X x (rd X.K cl e W f)
abbrev PAd (X : Cx) (cl : Cl) (e : Ent) (W : WX) (x : List Expr) (f : DA) : Prop := PA X x (rdA X.K cl e W f)
abbrev PTd (X : Cx) (cl : Cl) (e : Ent) (W : WX) (x : Expr) (f : DB) : Prop := PT X x (rdB X.K cl e W f)
abbrev PWd (X : Cx) (cl : Cl) (e : Ent) (W : WX) (x : Expr) (f : DB) : Prop := PW X x (rdB X.K cl e W f)
abbrev PSd (X : Cx) (cl : Cl) (e : Ent) (W : WX) (x : Stmt) (f : DS) : Prop := PS X x (rdS X.K cl e W f)
abbrev PSsd (X : Cx) (cl : Cl) (e : Ent) (W : WX) (x : List Stmt) (f : DS) : Prop := PSs X x (rdS X.K cl e W f)
abbrev Bx (X : Cx) (cl : Cl) (e : Ent) := B X.K cl e
abbrev Ix (X : Cx) (cl : Cl) := Is X.K cl

/-- an evaluation, then what comes of its value -/
theorem use_rd {f : DE} {F H : Hp} {ca : List Addr} {σ : L2.St} {s : S} {Q Z : VK} {k : D → S → R} (b : Bx X cl e F H ca σ s) (h : rdK X.K cl e W σ F ca Q (bindR (f s) k))
    (go : ∀ v d s1 F1 H1 ca1, Bx X cl e F1 H1 ca1 σ s1 → Is X.K cl F1 ca1 v d → Ex F F1 → Pre ca ca1 → rdK X.K cl e W σ F1 ca1 Q (k d s1) → Z v H1) : rd X.K cl e W f σ H Z := by
  refine ⟨F, ca, s, b, ?_⟩
  cases q : f s with
  | ok d s1 =>
    rw [q] at h
    exact fun v F1 H1 ca1 b1 x p i => go v d s1 F1 H1 ca1 b1 i x p (h.back x p)
  | er x s1 =>
    rw [q] at h
    exact h
  | _ =>
    rw [q] at h
    exact False.elim h
theorem use_rdA {f : DA} {F H : Hp} {ca : List Addr} {σ : L2.St} {s : S} {Q : VK} {Z : List V → Hp → Prop} {k : List D → S → R} (b : Bx X cl e F H ca σ s) (h : rdK X.K cl e W σ F ca Q (bindAR (f s) k))
    (go : ∀ vs ds s1 F1 H1 ca1, Bx X cl e F1 H1 ca1 σ s1 → IsL X.K cl F1 ca1 vs ds → Ex F F1 → Pre ca ca1 → rdK X.K cl e W σ F1 ca1 Q (k ds s1) → Z vs H1) : rdA X.K cl e W f σ H Z := by
  refine ⟨F, ca, s, b, ?_⟩
  cases q : f s with
  | ok d s1 =>
    rw [q] at h
    exact fun v F1 H1 ca1 b1 x p i => go v d s1 F1 H1 ca1 b1 i x p (h.back x p)
  | er x s1 =>
    rw [q] at h
    exact h
  | no =>
    rw [q] at h
    exact False.elim h
theorem use_rdB {f : DB} {F H : Hp} {ca : List Addr} {σ : L2.St} {s : S} {Q : VK} {Z : Bool → Hp → Prop} {k : Bool → S → R} (b : Bx X cl e F H ca σ s) (h : rdK X.K cl e W σ F ca Q (bindBR (f s) k))
    (go : ∀ d s1 F1 H1 ca1, Bx X cl e F1 H1 ca1 σ s1 → Ex F F1 → Pre ca ca1 → rdK X.K cl e W σ F1 ca1 Q (k d s1) → Z d H1) : rdB X.K cl e W f σ H Z := by
  refine ⟨F, ca, s, b, ?_⟩
  cases q : f s with
  | ok d s1 =>
    rw [q] at h
    exact fun F1 H1 ca1 b1 x p => go d s1 F1 H1 ca1 b1 x p (h.back x p)
  | er x s1 =>
    rw [q] at h
    exact h
  | no =>
    rw [q] at h
    exact False.elim h
/-- .. for tests -/
theorem useB_rd {f : DE} {F H : Hp} {ca : List Addr} {σ : L2.St} {s : S} {Q : Bool → Hp → Prop} {Z : VK} {k : D → S → RB} (b : Bx X cl e F H ca σ s) (h : rdBK X.K cl e W σ F ca Q (bindRB (f s) k))
    (go : ∀ v d s1 F1 H1 ca1, Bx X cl e F1 H1 ca1 σ s1 → Is X.K cl F1 ca1 v d → Ex F F1 → Pre ca ca1 → rdBK X.K cl e W σ F1 ca1 Q (k d s1) → Z v H1) : rd X.K cl e W f σ H Z := by
  refine ⟨F, ca, s, b, ?_⟩
  cases q : f s with
  | ok d s1 =>
    rw [q] at h
    exact fun v F1 H1 ca1 b1 x p i => go v d s1 F1 H1 ca1 b1 i x p (h.back x p)
  | er x s1 =>
    rw [q] at h
    exact h
  | _ =>
    rw [q] at h
    exact False.elim h
theorem useB_rdB {f : DB} {F H : Hp} {ca : List Addr} {σ : L2.St} {s : S} {Q Z : Bool → Hp → Prop} {k : Bool → S → RB} (b : Bx X cl e F H ca σ s) (h : rdBK X.K cl e W σ F ca Q (bindB (f s) k))
    (go : ∀ d s1 F1 H1 ca1, Bx X cl e F1 H1 ca1 σ s1 → Ex F F1 → Pre ca ca1 → rdBK X.K cl e W σ F1 ca1 Q (k d s1) → Z d H1) : rdB X.K cl e W f σ H Z := by
  refine ⟨F, ca, s, b, ?_⟩
  cases q : f s with
  | ok d s1 =>
    rw [q] at h
    exact fun F1 H1 ca1 b1 x p => go d s1 F1 H1 ca1 b1 x p (h.back x p)
  | er x s1 =>
    rw [q] at h
    exact h
  | no =>
    rw [q] at h
    exact False.elim h
/-- .. for argument lists -/
theorem useA_rd {f : DE} {F H : Hp} {ca : List Addr} {σ : L2.St} {s : S} {Q : List V → Hp → Prop} {Z : VK} {k : D → S → RA} (b : Bx X cl e F H ca σ s) (h : rdAK X.K cl e W σ F ca Q (bindRA (f s) k))
    (go : ∀ v d s1 F1 H1 ca1, Bx X cl e F1 H1 ca1 σ s1 → Is X.K cl F1 ca1 v d → Ex F F1 → Pre ca ca1 → rdAK X.K cl e W σ F1 ca1 Q (k d s1) → Z v H1) : rd X.K cl e W f σ H Z := by
  refine ⟨F, ca, s, b, ?_⟩
  cases q : f s with
  | ok d s1 =>
    rw [q] at h
    exact fun v F1 H1 ca1 b1 x p i => go v d s1 F1 H1 ca1 b1 i x p (h.back x p)
  | er x s1 =>
    rw [q] at h
    exact h
  | _ =>
    rw [q] at h
    exact False.elim h
theorem useA_rdA {f : DA} {F H : Hp} {ca : List Addr} {σ : L2.St} {s : S} {Q Z : List V → Hp → Prop} {k : List D → S → RA} (b : Bx X cl e F H ca σ s) (h : rdAK X.K cl e W σ F ca Q (bindA (f s) k))
    (go : ∀ vs ds s1 F1 H1 ca1, Bx X cl e F1 H1 ca1 σ s1 → IsL X.K cl F1 ca1 vs ds → Ex F F1 → Pre ca ca1 → rdAK X.K cl e W σ F1 ca1 Q (k ds s1) → Z vs H1) : rdA X.K cl e W f σ H Z := by
  refine ⟨F, ca, s, b, ?_⟩
  cases q : f s with
  | ok d s1 =>
    rw [q] at h
    exact fun v F1 H1 ca1 b1 x p i => go v d s1 F1 H1 ca1 b1 i x p (h.back x p)
  | er x s1 =>
    rw [q] at h
    exact h
  | no =>
    rw [q] at h
    exact False.elim h

/-! ### names, constants -/
variable {x a b c : Expr} {f g h : DE}
theorem d_var {i : Nat} (hv : PE X x (tVar i)) : PEd X cl e W x (dVar i) := pe_w hv fun σ H Q ⟨F, ca, s, b, q⟩ => by
  unfold dVar at q
  cases z : s.sl[i]? with
  | none =>
    rw [z] at q
    exact False.elim q
  | some o =>
    rw [z] at q
    cases o with
    | none => exact False.elim q
    | some d =>
      obtain ⟨v, h1, h2⟩ := b.slo i d z
      exact ⟨v, h1, q v F H ca b (Ex.refl F) (Pre.refl ca) h2⟩
theorem d_c {v : V} {d : D} (hv : PE X x (tC v)) (hd : ∀ F ca, Is X.K cl F ca v d) : PEd X cl e W x (dC d) := pe_w hv fun σ H Q ⟨F, ca, s, b, q⟩ => q v F H ca b (Ex.refl F) (Pre.refl ca) (hd F ca)
theorem d_int {i : Int} {j pos} : PEd X cl e W (.Constant (.int i) j pos) (dC (.int i)) := d_c pe_int fun _ _ => .int i
theorem d_bl {i : Bool} {j pos} : PEd X cl e W (.Constant (.bool i) j pos) (dC (.bl i)) := d_c pe_bl fun _ _ => .bl i
theorem d_non {j pos} : PEd X cl e W (.Constant .none j pos) (dC .non) := d_c pe_non fun _ _ => .non
theorem d_str {i : Str} {j pos} : PEd X cl e W (.Constant (.str i) j pos) (dC (.str i)) := d_c pe_str fun _ _ => .str i
theorem set_same {σ : L2.St} {i : Nat} {v : V} (h : σ[i]? = some (some v)) : σ.set i (some v) = σ := by
  refine List.ext_getElem? fun k => ?_
  by_cases w : k = i
  · subst w
    rw [List.getElem?_set_self (List.getElem?_eq_some_iff.mp h).1]
    exact h.symm
  · rw [List.getElem?_set_ne (Ne.symm w)]
theorem d_share {i : Nat} (hv : PE X x (tVar i)) : PEd X cl e W x (dShare i) := pe_w hv fun σ H Q ⟨F, ca, s, b, q⟩ => by
  unfold dShare at q
  cases z : s.sl[i]? with
  | none =>
    rw [z] at q
    exact False.elim q
  | some o =>
    rw [z] at q
    cases o with
    | none => exact False.elim q
    | some d =>
      obtain ⟨v, h1, h2⟩ := b.slo i d z
      refine ⟨v, h1, ?_⟩
      have plain : (∀ j, d ≠ .rf j) → Q v H := fun hn => by
        have q' : rdK X.K cl e W σ F ca Q (shareK i s d) := q
        cases d with
        | rf j => exact absurd rfl (hn j)
        | _ => exact q' v F H ca b (Ex.refl F) (Pre.refl ca) h2
      cases d with
      | rf j =>
        have q' : rdK X.K cl e W σ F ca Q (if s.n0 ≤ j then shareC i j s s.ce[j]? else .no) := q
        by_cases hj : s.n0 ≤ j
        · rw [if_pos hj] at q'
          cases h2 with
          | rf ha =>
            obtain ⟨c, e1, e2⟩ := b.cel.at_ ha
            rw [e1] at q'
            cases c with
            | lst xs =>
              obtain ⟨hF, vs, hH, hi⟩ := e2
              have b1 := b.freeze ha (b.own ha hj) hF hH
              have i1 : Is X.K cl (upd F _ (.lst vs)) ca (.ref _) (.lst xs) := .lst upd_same (hi.mono (Ex.new hF) (Pre.refl ca))
              have b2 := b1.put (i := i) i1
              refine q' _ _ H ca ?_ (Ex.new hF) (Pre.refl ca) i1
              rw [set_same h1] at b2
              exact b2
            | ins c fs =>
              obtain ⟨hF, dx, vs, hH, hi⟩ := e2
              have b1 := b.freeze ha (b.own ha hj) hF hH
              have i1 : Is X.K cl (upd F _ (.ins (cl c) dx vs)) ca (.ref _) (.obj c fs) := .obj upd_same (hi.mono (Ex.new hF) (Pre.refl ca))
              have b2 := b1.put (i := i) i1
              refine q' _ _ H ca ?_ (Ex.new hF) (Pre.refl ca) i1
              rw [set_same h1] at b2
              exact b2
            | _ => exact False.elim q'
        · rw [if_neg hj] at q'
          exact False.elim q'
      | _ => exact plain fun j z => by cases z

/-! ### new things -/
theorem NL.fix {F H : Hp} {ca : List Addr} {σ : L2.St} {s : S} {v : V} {xs : List D} (b : Bx X cl e F H ca σ s) (n : NL X.K cl e F H ca v xs) : ∃ F', Ex F F' ∧ Bx X cl e F' H ca σ s ∧ Is X.K cl F' ca v (.lst xs) := by
  obtain ⟨p, vs, rfl, hp, hi, hF, hc, h0⟩ := n
  exact ⟨_, Ex.new hF, b.fix hp hF hc h0, .lst upd_same (hi.mono (Ex.new hF) (Pre.refl ca))⟩
theorem NI.fix {F H : Hp} {ca : List Addr} {σ : L2.St} {s : S} {v : V} {c : Nat} {fs : List (Str × D)} (b : Bx X cl e F H ca σ s) (n : NI X.K cl e F H ca v c fs) : ∃ F', Ex F F' ∧ Bx X cl e F' H ca σ s ∧ Is X.K cl F' ca v (.obj c fs) := by
  obtain ⟨p, dx, vs, rfl, hp, hi, hF, hc, h0⟩ := n
  exact ⟨_, Ex.new hF, b.fix hp hF hc h0, .obj upd_same (hi.mono (Ex.new hF) (Pre.refl ca))⟩
theorem rd_fz {σ : L2.St} {H : Hp} {Q : VK} (h : rd X.K cl e W (dFz f) σ H Q) : rd X.K cl e W f σ H Q := by
  obtain ⟨F, ca, s, b, q⟩ := h
  refine ⟨F, ca, s, b, ?_⟩
  unfold dFz at q
  cases z : f s with
  | nl xs s1 =>
    rw [z] at q
    exact fun v F1 H1 ca1 b1 x1 p1 n => by
      obtain ⟨F2, x2, b2, i2⟩ := n.fix b1
      exact q v F2 H1 ca1 b2 (x1.trans x2) p1 i2
  | ni c fs s1 =>
    rw [z] at q
    exact fun v F1 H1 ca1 b1 x1 p1 n => by
      obtain ⟨F2, x2, b2, i2⟩ := n.fix b1
      exact q v F2 H1 ca1 b2 (x1.trans x2) p1 i2
  | ok d s1 =>
    rw [z] at q
    exact q
  | er d s1 =>
    rw [z] at q
    exact q
  | no =>
    rw [z] at q
    exact q
theorem d_fz (hf : PEd X cl e W x f) : PEd X cl e W x (dFz f) := pe_w hf fun _ _ _ q => rd_fz q
theorem pre_last {ca : List Addr} {n : Nat} {p : Addr} (h : ca.length = n) : (ca ++ [p])[n]? = some p := by
  subst h
  simp
theorem rd_ce {σ : L2.St} {H : Hp} {Q : VK} (h : rd X.K cl e W (dCe f) σ H Q) : rd X.K cl e W f σ H Q := by
  obtain ⟨F, ca, s, b, q⟩ := h
  refine ⟨F, ca, s, b, ?_⟩
  unfold dCe at q
  cases z : f s with
  | nl xs s1 =>
    rw [z] at q
    exact fun v F1 H1 ca1 b1 x1 p1 n => by
      obtain ⟨p, vs, rfl, hp, hi, hF, hc, h0⟩ := n
      exact q _ F1 H1 (ca1 ++ [p]) (b1.cell (c := .lst xs) ⟨hF, vs, hp, hi⟩ hc h0) x1 (p1.trans (Pre.app _ _)) (.rf (pre_last b1.cel.1))
  | ni c fs s1 =>
    rw [z] at q
    exact fun v F1 H1 ca1 b1 x1 p1 n => by
      obtain ⟨p, dx, vs, rfl, hp, hi, hF, hc, h0⟩ := n
      exact q _ F1 H1 (ca1 ++ [p]) (b1.cell (c := .ins c fs) ⟨hF, dx, vs, hp, hi⟩ hc h0) x1 (p1.trans (Pre.app _ _)) (.rf (pre_last b1.cel.1))
  | ok d s1 =>
    rw [z] at q
    exact q
  | er d s1 =>
    rw [z] at q
    exact q
  | no =>
    rw [z] at q
    exact q
theorem d_ce (hf : PEd X cl e W x f) : PEd X cl e W x (dCe f) := pe_w hf fun _ _ _ q => rd_ce q

/-! ### what values give -/
def PoK (X : Cx) (cl : Cl) (e : Ent) (F H : Hp) (ca : List Addr) (σ : L2.St) (s : S) (k : VK → Prop) : Po → Prop
  | .v d => ∀ Q : VK, (∀ v H', Bx X cl e F H' ca σ s → Is X.K cl F ca v d → Q v H') → k Q
  | .l xs => ∀ Q : VK, (∀ p vs, H p = none → IsL X.K cl F ca vs xs → Q (.ref p) (upd H p (.lst vs))) → k Q
  | .no => True
theorem PoK.go {F H : Hp} {ca : List Addr} {σ : L2.St} {s : S} {k : VK → Prop} {p : Po} {Q : VK} (b : Bx X cl e F H ca σ s) (h : PoK X cl e F H ca σ s k p) (q : rdK X.K cl e W σ F ca Q (poK s p)) : k Q := by
  cases p with
  | v d => exact h Q fun v H' b' i => q v F H' ca b' (Ex.refl F) (Pre.refl ca) i
  | l xs => exact h Q fun p vs hp hi => q (.ref p) F _ ca (b.laid hp) (Ex.refl F) (Pre.refl ca) ⟨p, vs, rfl, upd_same, hi, b.notF hp, b.notca hp, b.notH0 hp⟩
  | no => exact False.elim q
/-- an operator's rule r by values, as p says of data -/
def OpD (X : Cx) (cl : Cl) (e : Ent) (r : R2) (p : List Cell → D → D → Po) : Prop :=
  ∀ (F H : Hp) (ca : List Addr) (σ : L2.St) (s : S) (v1 v2 : V) (d1 d2 : D), Bx X cl e F H ca σ s → Is X.K cl F ca v1 d1 → Is X.K cl F ca v2 d2 → PoK X cl e F H ca σ s (fun Q => r v1 v2 H Q) (p s.ce d1 d2)
def UnD (X : Cx) (cl : Cl) (e : Ent) (r : V → Hp → VK → Prop) (p : List Cell → D → Po) : Prop :=
  ∀ (F H : Hp) (ca : List Addr) (σ : L2.St) (s : S) (v1 : V) (d1 : D), Bx X cl e F H ca σ s → Is X.K cl F ca v1 d1 → PoK X cl e F H ca σ s (fun Q => r v1 H Q) (p s.ce d1)
def BiD (X : Cx) (cl : Cl) (e : Ent) (r : List V → Hp → VK → Prop) (p : List Cell → List D → Po) : Prop :=
  ∀ (F H : Hp) (ca : List Addr) (σ : L2.St) (s : S) (vs : List V) (ds : List D), Bx X cl e F H ca σ s → IsL X.K cl F ca vs ds → PoK X cl e F H ca σ s (fun Q => r vs H Q) (p s.ce ds)
theorem rd_op {r : R2} {p : List Cell → D → D → Po} (ho : OpD X cl e r p) {σ : L2.St} {H : Hp} {Q : VK} (q : rd X.K cl e W (dOp p f g) σ H Q) : tOp r (rd X.K cl e W f) (rd X.K cl e W g) σ H Q := by
  obtain ⟨F, ca, s, b, q⟩ := q
  refine use_rd b q fun v1 d1 s1 F1 H1 ca1 b1 i1 x1 p1 q1 => ?_
  refine use_rd b1 q1 fun v2 d2 s2 F2 H2 ca2 b2 i2 x2 p2 q2 => ?_
  exact (ho F2 H2 ca2 σ s2 v1 v2 d1 d2 b2 (i1.mono x2 p2) i2).go b2 q2
theorem d_op {op : Operator} {r : R2} {p : List Cell → D → D → Po} {pos : Pos} (ho : OpR X (binaryOp op) r) (hd : OpD X cl e r p) (ha : PEd X cl e W a f) (hb : PEd X cl e W b g) : PEd X cl e W (.BinOp a op b pos) (dOp p f g) :=
  pe_w (pe_op ho ha hb) fun _ _ _ q => rd_op hd q
theorem d_cmp {op : CmpOp} {r : R2} {p : List Cell → D → D → Po} {pos : Pos} (ho : OpR X (compareOp op) r) (hd : OpD X cl e r p) (ha : PEd X cl e W a f) (hb : PEd X cl e W b g) (hm : behindInMarks op b = false) : PEd X cl e W (.Compare a [op] [b] pos) (dOp p f g) :=
  pe_w (pe_cmpR ho ha hb hm) fun _ _ _ q => rd_op hd q
theorem rd_un {r : V → Hp → VK → Prop} {p : List Cell → D → Po} (ho : UnD X cl e r p) {σ : L2.St} {H : Hp} {Q : VK} (q : rd X.K cl e W (dUn p f) σ H Q) : tUn r (rd X.K cl e W f) σ H Q := by
  obtain ⟨F, ca, s, b, q⟩ := q
  refine use_rd b q fun v1 d1 s1 F1 H1 ca1 b1 i1 x1 p1 q1 => ?_
  exact (ho F1 H1 ca1 σ s1 v1 d1 b1 i1).go b1 q1
theorem d_un {op : UnaryOp} {r : V → Hp → VK → Prop} {p : List Cell → D → Po} {pos : Pos} (ho : UnR X (unaryOp op) r) (hd : UnD X cl e r p) (ha : PEd X cl e W a f) : PEd X cl e W (.UnaryOp op a pos) (dUn p f) :=
  pe_w (pe_un ho ha) fun _ _ _ q => rd_un hd q
end
end Dv
set_option maxRecDepth 100000
set_option maxHeartbeats 4000000
namespace Dv
open PySem PySem.Spec PyProof.Rows L2

/-! ### operators by data -/
mutual
def toP : D → Option PyData
  | .non => some .none
  | .bl b => some (.bool b)
  | .int i => some (.int i)
  | .str s => some (.str s)
  | .lst xs => (toPs xs).map .list
  | .ro xs => (toPs xs).map .list
  | .tup xs => (toPs xs).map .tuple
  | .obj _ _ => none
  | .rf _ => none
def toPs : List D → Option (List PyData)
  | [] => some []
  | d :: ds => match toP d, toPs ds with
    | some p, some ps => some (p :: ps)
    | _, _ => none
end
def toPc (ce : List Cell) : D → Option PyData
  | .rf j => match cellL ce[j]? with
    | some xs => (toPs xs).map .list
    | none => none
  | d => toP d
section
variable {K : PySem.W.Frag} {cl : Cl} {F H : Hp} {ca : List Addr}
mutual
theorem toP_ok (x : Ex F H) : ∀ {v : V} {d : D} {p : PyData}, Is K cl F ca v d → toP d = some p → Dp K H v p
  | _, .non, _, .non, q => by
    cases q
    exact .non
  | _, .bl _, _, .bl b, q => by
    cases q
    exact .bl b
  | _, .int _, _, .int b, q => by
    cases q
    exact .int b
  | _, .str _, _, .str b, q => by
    cases q
    exact .str b
  | _, .lst xs, _, .lst h l, q => by
    have q' : (toPs xs).map PyData.list = some _ := q
    cases e : toPs xs with
    | none =>
      rw [e] at q'
      cases q'
    | some ps =>
      rw [e] at q'
      cases q'
      exact .lst (SqL.of (x _ _ h)) (toPs_ok x l e)
  | _, .ro xs, _, .ro h l, q => by
    have q' : (toPs xs).map PyData.list = some _ := q
    cases e : toPs xs with
    | none =>
      rw [e] at q'
      cases q'
    | some ps =>
      rw [e] at q'
      cases q'
      exact .lst (ex_l x h) (toPs_ok x l e)
  | _, .tup xs, _, .tup h l, q => by
    have q' : (toPs xs).map PyData.tuple = some _ := q
    cases e : toPs xs with
    | none =>
      rw [e] at q'
      cases q'
    | some ps =>
      rw [e] at q'
      cases q'
      exact .tup (ex_t x h) (toPs_ok x l e)
theorem toPs_ok (x : Ex F H) : ∀ {v : List V} {d : List D} {p : List PyData}, IsL K cl F ca v d → toPs d = some p → DpAll K H v p
  | _, [], _, .nil, q => by
    cases q
    exact .nil
  | _, d :: ds, _, .cons h l, q => by
    have q' : (match toP d, toPs ds with
      | some p, some ps => some (p :: ps)
      | _, _ => none) = some _ := q
    cases e1 : toP d with
    | none =>
      rw [e1] at q'
      cases q'
    | some p =>
      rw [e1] at q'
      cases e2 : toPs ds with
      | none =>
        rw [e2] at q'
        cases q'
      | some ps =>
        rw [e2] at q'
        cases q'
        exact .cons (toP_ok x h e1) (toPs_ok x l e2)
end
end
section
variable {K : PySem.W.Frag} {cl : Cl} {e : Ent} {F H : Hp} {ca : List Addr} {σ : L2.St} {s : S}
theorem toPc_ok {v : V} {d : D} {p : PyData} (b : B K cl e F H ca σ s) (h : Is K cl F ca v d) (q : toPc s.ce d = some p) : Dp K H v p := by
  by_cases z : ∃ j, d = .rf j
  · obtain ⟨j, rfl⟩ := z
    have q' : (match cellL s.ce[j]? with
      | some xs => (toPs xs).map PyData.list
      | none => none) = some p := q
    cases e1 : cellL s.ce[j]? with
    | none =>
      rw [e1] at q'
      cases q'
    | some xs =>
      rw [e1] at q'
      have q2 : (toPs xs).map PyData.list = some p := q'
      obtain ⟨a, vs, rfl, hl, hi⟩ := look_ok b h (xs := xs) e1
      cases e2 : toPs xs with
      | none =>
        rw [e2] at q2
        cases q2
      | some ps =>
        rw [e2] at q2
        cases q2
        exact .lst hl (toPs_ok b.fh hi e2)
  · refine toP_ok b.fh h ?_
    cases d with
    | rf j => exact absurd ⟨j, rfl⟩ z
    | _ => exact q
end

def addL (a b : Option (List D)) : Po := match a, b with
  | some xs, some ys => if xs.length + ys.length ≤ 100000 then .l (xs ++ ys) else .no
  | _, _ => .no
def pAdd (ce : List Cell) : D → D → Po
  | .int i, .int j => .v (.int (i + j))
  | .str x, .str y => if x.length + y.length ≤ 1000000 then .v (.str (x ++ y)) else .no
  | a, b => addL (lookT ce a) (lookT ce b)
def pSub (_ : List Cell) : D → D → Po
  | .int i, .int j => .v (.int (i - j))
  | _, _ => .no
/-- bits -/
def bits (i : Int) : Nat := i.natAbs.log2
def pMul (_ : List Cell) : D → D → Po
  | .int i, .int j => if bits i + bits j < 900000 then .v (.int (i * j)) else .no
  | _, _ => .no
def repL (a : Option (List D)) (k : Int) : Po := match a with
  | some xs => if k ≤ 100000 ∧ xs.length * k.toNat ≤ 100000 ∧ -100000 ≤ k then .l (List.replicate k.toNat xs).flatten else .no
  | none => .no
def pRep (ce : List Cell) : D → D → Po
  | a, .int k => repL (lookT ce a) k
  | _, _ => .no
def pDiv (_ : List Cell) : D → D → Po
  | .int i, .int j => if 0 < j ∧ bits j < 9000 then .v (.int (i / j)) else .no
  | _, _ => .no
def pMod (_ : List Cell) : D → D → Po
  | .int i, .int j => if 0 < j then .v (.int (i % j)) else .no
  | _, _ => .no
def pPow (_ : List Cell) : D → D → Po
  | .int i, .int j => if 0 ≤ j ∧ ((bits i : Int) + 1) * j ≤ 134217728 then .v (.int (i ^ j.toNat)) else .no
  | _, _ => .no
def pCmp (p : Int → Int → Bool) (_ : List Cell) : D → D → Po
  | .int i, .int j => .v (.bl (p i j))
  | _, _ => .no
def eqP (a b : Option PyData) (neg : Bool) : Po := match a, b with
  | some p, some q => if SeqAt.shaped p = true ∧ SeqAt.shaped q = true then .v (.bl (if neg then !PyData.eqv p q else PyData.eqv p q)) else .no
  | _, _ => .no
def pEq (ce : List Cell) (a b : D) : Po := eqP (toPc ce a) (toPc ce b) false
def pNe (ce : List Cell) (a b : D) : Po := eqP (toPc ce a) (toPc ce b) true
def pNeg (_ : List Cell) : D → Po
  | .int i => .v (.int (-i))
  | _ => .no
def pIs (neg : Bool) (_ : List Cell) : D → D → Po
  | .non, .non => .v (.bl (!neg))
  | .rf _, _ => .no
  | _, .non => .v (.bl neg)
  | _, _ => .no

section
variable {X : Cx} {cl : Cl} {e : Ent}
theorem PoK.val {F H : Hp} {ca : List Addr} {σ : L2.St} {s : S} {k : VK → Prop} {d : D} {v : V} (b : Bx X cl e F H ca σ s) (hi : Is X.K cl F ca v d) (h : ∀ Q : VK, Q v H → k Q) : PoK X cl e F H ca σ s k (.v d) :=
  fun Q q => h Q (q v H b hi)
theorem PoK.ite {F H : Hp} {ca : List Addr} {σ : L2.St} {s : S} {k : VK → Prop} {c : Prop} [Decidable c] {p : Po} (h : c → PoK X cl e F H ca σ s k p) : PoK X cl e F H ca σ s k (if c then p else .no) := by
  by_cases z : c
  · rw [if_pos z]
    exact h z
  · rw [if_neg z]
    trivial
theorem opd_no {r : R2} : OpD X cl e r (fun _ _ _ => .no) := fun _ _ _ _ _ _ _ _ _ _ _ _ => trivial

def rStrAdd : R2 := fun x y H Q => ∃ i j, x = .str i ∧ y = .str j ∧ i.length + j.length ≤ sizeLine ∧ Q (.str (i ++ j)) H
def rAddAll : R2 := fun x y H Q => ((rI0 fun i j => V.int (i + j)) x y H Q ∨ rStrAdd x y H Q) ∨ rCat x y H Q
theorem op_addAll : OpR X (binaryOp .Add) rAddAll := OpR.or (OpR.or op_add op_add_str) op_cat
theorem sz {n : Nat} (h : n ≤ 1000000) : n ≤ sizeLine := Nat.le_trans h (by decide)
theorem addL_ok {F H : Hp} {ca : List Addr} {σ : L2.St} {s : S} {v1 v2 : V} {d1 d2 : D} (b : Bx X cl e F H ca σ s) (h1 : Is X.K cl F ca v1 d1) (h2 : Is X.K cl F ca v2 d2) :
    PoK X cl e F H ca σ s (fun Q => rAddAll v1 v2 H Q) (addL (lookT s.ce d1) (lookT s.ce d2)) := by
  cases e1 : lookT s.ce d1 with
  | none => trivial
  | some xs =>
    cases e2 : lookT s.ce d2 with
    | none => trivial
    | some ys =>
      refine PoK.ite fun hz => ?_
      obtain ⟨a1, vs1, rfl, hl1, hi1⟩ := lookT_ok b h1 e1
      obtain ⟨a2, vs2, rfl, hl2, hi2⟩ := lookT_ok b h2 e2
      exact fun Q q => .inr ⟨a1, a2, vs1, vs2, rfl, rfl, hl1, hl2, sz (by rw [hi1.length, hi2.length]; omega), fun p hp => q p _ hp (hi1.app hi2)⟩
theorem od_add : OpD X cl e rAddAll pAdd := fun F H ca σ s v1 v2 d1 d2 b h1 h2 => by
  have gen := addL_ok b h1 h2
  cases h1 with
  | int i =>
    cases h2 with
    | int j => exact .val b (.int _) fun Q q => .inl (.inl ⟨i, j, rfl, rfl, q⟩)
    | _ => exact gen
  | str x =>
    cases h2 with
    | str y => exact .ite fun hz => .val b (.str _) fun Q q => .inl (.inr ⟨x, y, rfl, rfl, sz hz, q⟩)
    | _ => exact gen
  | _ => exact gen
theorem od_sub : OpD X cl e (rI0 fun i j => .int (i - j)) pSub := fun F H ca σ s v1 v2 d1 d2 b h1 h2 => by
  cases h1 with
  | int i =>
    cases h2 with
    | int j => exact .val b (.int _) fun Q q => ⟨i, j, rfl, rfl, q⟩
    | _ => trivial
  | _ => cases h2 <;> trivial
theorem od_mul : OpD X cl e (rI CMulW fun i j => .int (i * j)) pMul := fun F H ca σ s v1 v2 d1 d2 b h1 h2 => by
  cases h1 with
  | int i =>
    cases h2 with
    | int j => exact .ite fun hz => .val b (.int _) fun Q q => ⟨i, j, rfl, rfl, (by unfold CMulW; unfold bits at hz; omega), q⟩
    | _ => trivial
  | _ => cases h2 <;> trivial
theorem od_rep : OpD X cl e rRep pRep := fun F H ca σ s v1 v2 d1 d2 b h1 h2 => by
  cases h2 with
  | int k =>
    show PoK X cl e F H ca σ s _ (repL (lookT s.ce d1) k)
    cases e1 : lookT s.ce d1 with
    | none => trivial
    | some xs =>
      refine PoK.ite fun hz => ?_
      obtain ⟨a1, vs1, rfl, hl1, hi1⟩ := lookT_ok b h1 e1
      refine fun Q q => ⟨a1, k, vs1, rfl, rfl, hl1, by omega, by omega, sz (by rw [hi1.length]; omega), fun p hp => q p _ hp ?_⟩
      generalize k.toNat = n
      induction n with
      | zero => exact .nil
      | succ n ih =>
        rw [List.replicate_succ, List.replicate_succ, List.flatten_cons, List.flatten_cons]
        exact hi1.app ih
  | _ => cases h1 <;> trivial
theorem od_div : OpD X cl e (rI CDivW fun i j => .int (i / j)) pDiv := fun F H ca σ s v1 v2 d1 d2 b h1 h2 => by
  cases h1 with
  | int i =>
    cases h2 with
    | int j => exact .ite fun hz => .val b (.int _) fun Q q => ⟨i, j, rfl, rfl, ⟨hz.1, hz.2⟩, q⟩
    | _ => trivial
  | _ => cases h2 <;> trivial
theorem od_mod : OpD X cl e (rI (fun _ j => 0 < j) fun i j => .int (i % j)) pMod := fun F H ca σ s v1 v2 d1 d2 b h1 h2 => by
  cases h1 with
  | int i =>
    cases h2 with
    | int j => exact .ite fun hz => .val b (.int _) fun Q q => ⟨i, j, rfl, rfl, hz, q⟩
    | _ => trivial
  | _ => cases h2 <;> trivial
def CPowW (i j : Int) : Prop := 0 ≤ j ∧ (Builtin.Int.intBits i : Int) * j ≤ 2 ^ 27
theorem op_powW : OpR X (binaryOp .Pow) (rI CPowW fun i j => .int (i ^ j.toNat)) := opI fun _ _ _ _ _ _ _ hc q => pow_int hc.1 hc.2 q
theorem od_pow : OpD X cl e (rI CPowW fun i j => .int (i ^ j.toNat)) pPow := fun F H ca σ s v1 v2 d1 d2 b h1 h2 => by
  cases h1 with
  | int i =>
    cases h2 with
    | int j =>
      refine .ite fun hz => .val b (.int _) fun Q q => ⟨i, j, rfl, rfl, ⟨hz.1, ?_⟩, q⟩
      have h1 : Builtin.Int.intBits i ≤ bits i + 1 := by
        unfold Builtin.Int.intBits bits
        split <;> omega
      have h3 : (Builtin.Int.intBits i : Int) * j ≤ ((bits i : Int) + 1) * j := Int.mul_le_mul_of_nonneg_right (by omega) hz.1
      have h4 : (2 : Int) ^ 27 = 134217728 := by decide
      rw [h4]
      omega
    | _ => trivial
  | _ => cases h2 <;> trivial
theorem od_cmp (p : Int → Int → Bool) : OpD X cl e (rI0 fun i j => .bl (p i j)) (pCmp p) := fun F H ca σ s v1 v2 d1 d2 b h1 h2 => by
  cases h1 with
  | int i =>
    cases h2 with
    | int j => exact .val b (.bl _) fun Q q => ⟨i, j, rfl, rfl, q⟩
    | _ => trivial
  | _ => cases h2 <;> trivial
theorem od_eq : OpD X cl e (rEqD X.K) pEq := fun F H ca σ s v1 v2 d1 d2 b h1 h2 => by
  unfold pEq eqP
  cases e1 : toPc s.ce d1 with
  | none => trivial
  | some p =>
    cases e2 : toPc s.ce d2 with
    | none => trivial
    | some q => exact .ite fun hz => .val b (.bl _) fun Q k => ⟨p, q, toPc_ok b h1 e1, toPc_ok b h2 e2, hz.1, hz.2, k⟩
theorem od_ne : OpD X cl e (rNeD X.K) pNe := fun F H ca σ s v1 v2 d1 d2 b h1 h2 => by
  unfold pNe eqP
  cases e1 : toPc s.ce d1 with
  | none => trivial
  | some p =>
    cases e2 : toPc s.ce d2 with
    | none => trivial
    | some q => exact .ite fun hz => .val b (.bl _) fun Q k => ⟨p, q, toPc_ok b h1 e1, toPc_ok b h2 e2, hz.1, hz.2, k⟩
theorem ud_neg : UnD X cl e (rU fun i => .int (-i)) pNeg := fun F H ca σ s v1 d1 b h1 => by
  cases h1 with
  | int i => exact .val b (.int _) fun Q q => ⟨i, rfl, q⟩
  | _ => trivial
theorem od_is : OpD X cl e (fun x y H Q => y = .non ∧ Q (.bl (decide (x = .non))) H) (pIs false) := fun F H ca σ s v1 v2 d1 d2 b h1 h2 => by
  cases h2 with
  | non => cases h1 <;> first
    | exact .val b (.bl _) fun Q q => ⟨rfl, q⟩
    | trivial
  | _ => cases h1 <;> trivial
theorem od_isnot : OpD X cl e (fun x y H Q => y = .non ∧ Q (.bl (!decide (x = .non))) H) (pIs true) := fun F H ca σ s v1 v2 d1 d2 b h1 h2 => by
  cases h2 with
  | non => cases h1 <;> first
    | exact .val b (.bl _) fun Q q => ⟨rfl, q⟩
    | trivial
  | _ => cases h1 <;> trivial

/-! ### in -/
def flatD : D → Bool
  | .non => true
  | .bl _ => true
  | .int _ => true
  | .str _ => true
  | _ => false
def eqF : D → D → Bool
  | .non, .non => true
  | .bl a, .bl b => a == b
  | .bl a, .int b => (if a then 1 else 0) == b
  | .int a, .bl b => a == (if b then 1 else 0)
  | .int a, .int b => a == b
  | .str a, .str b => a == b
  | _, _ => false
theorem flat_ok {F : Hp} {ca : List Addr} {v : V} {d : D} (h : Is X.K cl F ca v d) (q : flatD d = true) : flatV v = true := by
  cases h <;> first
    | rfl
    | cases q
theorem eqF_ok {F : Hp} {ca : List Addr} {v w : V} {d f : D} (h : Is X.K cl F ca v d) (g : Is X.K cl F ca w f) (q : flatD d = true) (q2 : flatD f = true) : eqV v w = eqF d f := by
  cases h <;> cases g <;> first
    | rfl
    | cases q
    | cases q2
theorem flats_ok {F : Hp} {ca : List Addr} : ∀ {vs : List V} {ds : List D}, IsL X.K cl F ca vs ds → ds.all flatD = true → vs.all flatV = true
  | _, _, .nil, _ => rfl
  | _, _, .cons h t, q => by
    rw [List.all_cons, Bool.and_eq_true] at q
    rw [List.all_cons, flat_ok h q.1, flats_ok t q.2] <;> rfl
theorem anyF_ok {F : Hp} {ca : List Addr} {v : V} {d : D} (h : Is X.K cl F ca v d) (q : flatD d = true) : ∀ {vs : List V} {ds : List D}, IsL X.K cl F ca vs ds → ds.all flatD = true → inV v vs = ds.any (fun y => eqF y d)
  | _, _, .nil, _ => rfl
  | _, _, .cons g t, q2 => by
    rw [List.all_cons, Bool.and_eq_true] at q2
    have ih := anyF_ok h q t q2.2
    unfold inV at ih ⊢
    rw [List.any_cons, List.any_cons, eqF_ok g h q2.1 q, ih]
/-- the items of a list or a tuple -/
def lookU (ce : List Cell) : D → Option (List D)
  | .tup xs => some xs
  | d => look ce d
def inL (neg : Bool) (d : D) : Option (List D) → Po
  | some xs => if flatD d = true ∧ xs.all flatD = true then .v (.bl (if neg then !xs.any (fun y => eqF y d) else xs.any (fun y => eqF y d))) else .no
  | none => .no
def pIn (neg : Bool) (ce : List Cell) (a b : D) : Po := inL neg a (lookU ce b)
theorem lookU_ok {F H : Hp} {ca : List Addr} {σ : L2.St} {s : S} {v : V} {d : D} {xs : List D} (b : Bx X cl e F H ca σ s) (h : Is X.K cl F ca v d) (q : lookU s.ce d = some xs) : ∃ a vs, v = .ref a ∧ (SqL X.K H a vs ∨ SqT X.K H a vs) ∧ IsL X.K cl F ca vs xs := by
  cases h with
  | tup hl hi =>
    cases q
    exact ⟨_, _, rfl, .inr (ex_t b.fh hl), hi⟩
  | lst hl hi =>
    obtain ⟨a, vs, h1, h2, h3⟩ := look_ok b (.lst hl hi) q
    exact ⟨a, vs, h1, .inl h2, h3⟩
  | ro hl hi =>
    obtain ⟨a, vs, h1, h2, h3⟩ := look_ok b (.ro hl hi) q
    exact ⟨a, vs, h1, .inl h2, h3⟩
  | rf hl =>
    obtain ⟨a, vs, h1, h2, h3⟩ := look_ok b (.rf hl) q
    exact ⟨a, vs, h1, .inl h2, h3⟩
  | _ => cases q
theorem od_in (neg : Bool) : OpD X cl e (rIn X.K neg) (pIn neg) := fun F H ca σ s v1 v2 d1 d2 b h1 h2 => by
  unfold pIn
  cases e1 : lookU s.ce d2 with
  | none => trivial
  | some xs =>
    refine PoK.ite fun hz => ?_
    obtain ⟨a, vs, rfl, hl, hi⟩ := lookU_ok b h2 e1
    refine .val b (.bl _) fun Q q => ⟨a, vs, rfl, hl, flat_ok h1 hz.1, flats_ok hi hz.2, ?_⟩
    rw [anyF_ok h1 hz.1 hi hz.2]
    exact q
end
end Dv
set_option maxRecDepth 100000
set_option maxHeartbeats 4000000
namespace Dv
open PySem PySem.Spec PyProof.Rows L2
section
variable {X : Cx} {cl : Cl} {e : Ent} {W : WX} {x a b c : Expr} {f g h : DE} {es : List Expr} {ga gb : DA} {pos : Pos} {tb tc td : DB} {rest : List Expr}
/-! ### argument lists, displays, built-ins -/
theorem d_anil : PAd X cl e W [] aNil := pa_w pa_nil fun σ H Q ⟨F, ca, s, b, q⟩ => q [] F H ca b (Ex.refl F) (Pre.refl ca) .nil
theorem d_acons (ha : PEd X cl e W a f) (hr : PAd X cl e W es ga) (hst : starEach (a :: es) X.env = (false, eval a X.env) :: starEach es X.env := by rfl) : PAd X cl e W (a :: es) (aCons f ga) :=
  pa_w (pa_cons ha hr hst) fun σ H Q ⟨F, ca, s, b, q⟩ => by
    refine useA_rd b q fun v d s1 F1 H1 ca1 b1 i1 x1 p1 q1 => ?_
    refine useA_rdA b1 q1 fun vs ds s2 F2 H2 ca2 b2 i2 x2 p2 q2 => ?_
    exact q2 (v :: vs) F2 H2 ca2 b2 (Ex.refl F2) (Pre.refl ca2) (.cons (i1.mono x2 p2) i2)
theorem rd_bi {r : List V → Hp → VK → Prop} {p : List Cell → List D → Po} (hd : BiD X cl e r p) {σ : L2.St} {H : Hp} {Q : VK} (q : rd X.K cl e W (dBi p ga) σ H Q) : tCB r (rdA X.K cl e W ga) σ H Q := by
  obtain ⟨F, ca, s, b, q⟩ := q
  refine use_rdA b q fun vs ds s1 F1 H1 ca1 b1 i1 x1 p1 q1 => ?_
  exact (hd F1 H1 ca1 σ s1 vs ds b1 i1).go b1 q1
theorem d_lst (ha : PAd X cl e W es ga) (hst : PE X (.List es pos) (tLst (rdA X.K cl e W ga))) : PEd X cl e W (.List es pos) (dLst ga) := pe_w hst fun σ H Q ⟨F, ca, s, b, q⟩ => by
  refine use_rdA b q fun vs ds s1 F1 H1 ca1 b1 i1 x1 p1 q1 => ?_
  by_cases hz : ds.length ≤ 100000
  · rw [if_pos hz] at q1
    refine ⟨sz (by rw [i1.length]; omega), fun p hp => ?_⟩
    exact q1 (.ref p) F1 _ ca1 (b1.laid hp) (Ex.refl F1) (Pre.refl ca1) ⟨p, vs, rfl, upd_same, i1, b1.notF hp, b1.notca hp, b1.notH0 hp⟩
  · rw [if_neg hz] at q1
    exact False.elim q1
theorem d_tup (ha : PAd X cl e W es ga) (hst : PE X x (tTup (rdA X.K cl e W ga))) : PEd X cl e W x (dTup ga) := pe_w hst fun σ H Q ⟨F, ca, s, b, q⟩ => by
  refine use_rdA b q fun vs ds s1 F1 H1 ca1 b1 i1 x1 p1 q1 => ?_
  by_cases hz : ds.length ≤ 100000
  · rw [if_pos hz] at q1
    refine ⟨sz (by rw [i1.length]; omega), fun p hp => ?_⟩
    have hF := b1.notF hp
    refine q1 (.ref p) _ _ ca1 ((b1.laid hp).fix upd_same hF (b1.notca hp) (b1.notH0 hp)) (Ex.new hF) (Pre.refl ca1) ?_
    exact .tup (SqT.of upd_same) (i1.mono (Ex.new hF) (Pre.refl ca1))
  · rw [if_neg hz] at q1
    exact False.elim q1

/-! ### tests -/
theorem rd_test {σ : L2.St} {H : Hp} {Q : Bool → Hp → Prop} (q : rdB X.K cl e W (bTest f) σ H Q) : rd X.K cl e W f σ H fun x H1 => ∃ k, x = .bl k ∧ Q k H1 := by
  obtain ⟨F, ca, s, b, q⟩ := q
  refine useB_rd b q fun v d s1 F1 H1 ca1 b1 i1 x1 p1 q1 => ?_
  cases i1 with
  | bl k => exact ⟨k, rfl, q1 F1 H1 ca1 b1 (Ex.refl F1) (Pre.refl ca1)⟩
  | _ => exact False.elim q1
theorem rd_bOp {r : R2} {p : List Cell → D → D → Po} (hd : OpD X cl e r p) {σ : L2.St} {H : Hp} {Q : Bool → Hp → Prop} (q : rdB X.K cl e W (bTest (dOp p f g)) σ H Q) : tTest (tOp r (rd X.K cl e W f) (rd X.K cl e W g)) σ H Q :=
  rd_op hd (rd_test q)
theorem t_cmp {op : CmpOp} {r : R2} {p : List Cell → D → D → Po} (ho : OpR X (compareOp op) r) (hd : OpD X cl e r p) (ha : PEd X cl e W a f) (hb : PEd X cl e W b g) (hm : behindInMarks op b = false) : PTd X cl e W (.Compare a [op] [b] pos) (bTest (dOp p f g)) :=
  pt_w (pt_cmpR ho ha hb hm) fun _ _ _ q => rd_bOp hd q
theorem t_val (ha : PEd X cl e W a f) (he : ∀ whole, isTrue a X.env whole = (do let v ← whole; standAt a.pos; holding [v] (truthy v)) := by intro _; rfl) : PTd X cl e W a (bTest f) :=
  pt_w (pt_val ha he) fun _ _ _ q => rd_test q
theorem truD_ok {F H : Hp} {ca : List Addr} {σ : L2.St} {s : S} {v : V} {d : D} {k : Bool} (b : Bx X cl e F H ca σ s) (i : Is X.K cl F ca v d) (q : truD s.ce d = some k) : TruV X.K v H k := by
  cases i with
  | non =>
    cases q
    rfl
  | bl z =>
    cases q
    rfl
  | int z =>
    cases q
    rfl
  | str y =>
    have q' : (if y.length ≤ 100000 then some ((y.length : Int) != 0) else none) = some k := q
    by_cases hz : y.length ≤ 100000
    · rw [if_pos hz] at q'
      cases q'
      exact ⟨sz (by omega), rfl⟩
    · rw [if_neg hz] at q'
      cases q'
  | lst hl hi =>
    cases q
    refine .inl ⟨_, SqL.of (b.fh _ _ hl), ?_⟩
    cases hi <;> rfl
  | tup hl hi =>
    cases q
    refine .inr (.inl ⟨_, ex_t b.fh hl, ?_⟩)
    cases hi <;> rfl
  | @rf a0 j hj =>
    have q' : (match cellL s.ce[j]? with
      | some xs => some (!xs.isEmpty)
      | none => none) = some k := q
    cases e1 : cellL s.ce[j]? with
    | none =>
      rw [e1] at q'
      cases q'
    | some xs =>
      rw [e1] at q'
      cases q'
      obtain ⟨a, vs, e2, hl, hi⟩ := look_ok b (.rf hj) (xs := xs) e1
      cases e2
      refine .inl ⟨_, hl, ?_⟩
      cases hi <;> rfl
  | _ => cases q
theorem t_tru (ha : PEd X cl e W a f) (he : ∀ whole, isTrue a X.env whole = (do let v ← whole; standAt a.pos; holding [v] (truthy v)) := by intro _; rfl) : PTd X cl e W a (bTru f) :=
  pt_w (pt_truth ha he) fun σ H Q ⟨F, ca, s, b, q⟩ => by
    refine useB_rd b q fun v d s1 F1 H1 ca1 b1 i1 x1 p1 q1 => ?_
    cases e1 : truD s1.ce d with
    | none =>
      rw [e1] at q1
      exact False.elim q1
    | some k =>
      rw [e1] at q1
      exact ⟨k, truD_ok b1 i1 e1, q1 F1 H1 ca1 b1 (Ex.refl F1) (Pre.refl ca1)⟩
theorem t_and (ha : PTd X cl e W a tb) (hb : PWd X cl e W (.BoolOp .And (b :: rest) pos) tc) : PWd X cl e W (.BoolOp .And (a :: b :: rest) pos) (bAnd tb tc) :=
  pw_w (pw_and ha hb) fun σ H Q ⟨F, ca, s, b, q⟩ => by
    refine useB_rdB b q fun d s1 F1 H1 ca1 b1 x1 p1 q1 => ?_
    cases d with
    | true => exact ⟨F1, ca1, s1, b1, q1⟩
    | false => exact q1 F1 H1 ca1 b1 (Ex.refl F1) (Pre.refl ca1)
theorem t_or (ha : PTd X cl e W a tb) (hb : PWd X cl e W (.BoolOp .Or (b :: rest) pos) tc) : PWd X cl e W (.BoolOp .Or (a :: b :: rest) pos) (bOr tb tc) :=
  pw_w (pw_or ha hb) fun σ H Q ⟨F, ca, s, b, q⟩ => by
    refine useB_rdB b q fun d s1 F1 H1 ca1 b1 x1 p1 q1 => ?_
    cases d with
    | true => exact q1 F1 H1 ca1 b1 (Ex.refl F1) (Pre.refl ca1)
    | false => exact ⟨F1, ca1, s1, b1, q1⟩
theorem t_not (ha : PTd X cl e W a tb) : PTd X cl e W (.UnaryOp .Not a pos) (bNot tb) :=
  pt_w (pt_not ha) fun σ H Q ⟨F, ca, s, b, q⟩ => by
    refine useB_rdB b q fun d s1 F1 H1 ca1 b1 x1 p1 q1 => ?_
    exact q1 F1 H1 ca1 b1 (Ex.refl F1) (Pre.refl ca1)
theorem d_if (hc : PTd X cl e W c tb) (ha : PEd X cl e W a f) (hb : PEd X cl e W b g) : PEd X cl e W (.IfExp c a b pos) (dIf tb f g) :=
  pe_w (pe_ifExp hc ha hb) fun σ H Q ⟨F, ca, s, b, q⟩ => by
    refine use_rdB b q fun d s1 F1 H1 ca1 b1 x1 p1 q1 => ?_
    cases d with
    | true => exact ⟨F1, ca1, s1, b1, q1⟩
    | false => exact ⟨F1, ca1, s1, b1, q1⟩
/-! ### and, or, not as values -/
theorem d_one {op} (ha : PEd X cl e W a f) : PEd X cl e W (.BoolOp op [a] pos) f := pe_one ha
theorem d_and (ha : PEd X cl e W a f) (hb : PEd X cl e W (.BoolOp .And (b :: rest) pos) g) : PEd X cl e W (.BoolOp .And (a :: b :: rest) pos) (dAnd f g) :=
  pe_w (pe_and ha hb) fun σ H Q ⟨F, ca, s, b, q⟩ => by
    refine use_rd b q fun v d s1 F1 H1 ca1 b1 i1 x1 p1 q1 => ?_
    cases i1 with
    | bl k =>
      refine ⟨k, rfl, ?_⟩
      cases k with
      | true => exact ⟨F1, ca1, s1, b1, q1⟩
      | false => exact q1 _ F1 H1 ca1 b1 (Ex.refl F1) (Pre.refl ca1) (.bl _)
    | _ => exact False.elim q1
theorem d_or (ha : PEd X cl e W a f) (hb : PEd X cl e W (.BoolOp .Or (b :: rest) pos) g) : PEd X cl e W (.BoolOp .Or (a :: b :: rest) pos) (dOr f g) :=
  pe_w (pe_or ha hb) fun σ H Q ⟨F, ca, s, b, q⟩ => by
    refine use_rd b q fun v d s1 F1 H1 ca1 b1 i1 x1 p1 q1 => ?_
    cases i1 with
    | bl k =>
      refine ⟨k, rfl, ?_⟩
      cases k with
      | true => exact q1 _ F1 H1 ca1 b1 (Ex.refl F1) (Pre.refl ca1) (.bl _)
      | false => exact ⟨F1, ca1, s1, b1, q1⟩
    | _ => exact False.elim q1
theorem d_not (ha : PEd X cl e W a f) : PEd X cl e W (.UnaryOp .Not a pos) (dNot f) :=
  pe_w (pe_not ha) fun σ H Q ⟨F, ca, s, b, q⟩ => by
    refine use_rd b q fun v d s1 F1 H1 ca1 b1 i1 x1 p1 q1 => ?_
    cases i1 with
    | bl k => exact ⟨k, rfl, q1 _ F1 H1 ca1 b1 (Ex.refl F1) (Pre.refl ca1) (.bl _)⟩
    | _ => exact False.elim q1
end

/-! ### built-ins by values -/
def lenD (ce : List Cell) : D → Po
  | .str y => if y.length ≤ 1000000 then .v (.int y.length) else .no
  | d => match lookU ce d with
    | some xs => .v (.int xs.length)
    | none => .no
def b1 (k : List Cell → D → Po) (ce : List Cell) : List D → Po
  | [d] => k ce d
  | _ => .no
def b2 (k : List Cell → D → D → Po) (ce : List Cell) : List D → Po
  | [d, f] => k ce d f
  | _ => .no
def absD (_ : List Cell) : D → Po
  | .int i => .v (.int (if i < 0 then -i else i))
  | _ => .no
def maxD (_ : List Cell) : D → D → Po
  | .int i, .int j => .v (.int (if j > i then j else i))
  | _, _ => .no
def minD (_ : List Cell) : D → D → Po
  | .int i, .int j => .v (.int (if j < i then j else i))
  | _, _ => .no
def intD (_ : List Cell) : D → Po
  | .int i => .v (.int i)
  | .bl k => .v (.int (if k then 1 else 0))
  | _ => .no
def listD (ce : List Cell) (d : D) : Po := match lookU ce d with
  | some xs => .l xs
  | none => .no
/-- the ints of a list -/
def intsD : List D → Option (List Int)
  | [] => some []
  | .int i :: ds => (intsD ds).map (i :: ·)
  | _ => none
def isortI (ns : List Int) : List Int := ns.mergeSort (· ≤ ·)
def sortedD (ce : List Cell) (d : D) : Po := match look ce d with
  | some xs => match intsD xs with
    | some ns => .l ((isortI ns).map .int)
    | none => .no
  | none => .no
def gcdD (_ : List Cell) : D → D → Po
  | .int i, .int j => .v (.int ((Nat.gcd i.natAbs j.natAbs : Nat) : Int))
  | _, _ => .no
/-- True, False of a list -/
def blsD : List D → Option (List Bool)
  | [] => some []
  | .bl i :: ds => (blsD ds).map (i :: ·)
  | _ => none
def allD (ce : List Cell) (d : D) : Po := match look ce d with
  | some xs => match blsD xs with
    | some bs => .v (.bl (bs.all id))
    | none => .no
  | none => .no
def sumD (ce : List Cell) (d : D) : Po := match look ce d with
  | some xs => match intsD xs with
    | some ns => .v (.int ns.sum)
    | none => .no
  | none => .no
def strD (_ : List Cell) : D → Po
  | .int i => if bits i < 1900 then .v (.str (toString i)) else .no
  | _ => .no
theorem intsD_eq : ∀ {ds : List D} {ns : List Int}, intsD ds = some ns → ds = ns.map D.int
  | [], ns, h => by
    cases h
    rfl
  | .int i :: ds, ns, h => by
    have h' : (intsD ds).map (i :: ·) = some ns := h
    cases e : intsD ds with
    | none =>
      rw [e] at h'
      cases h'
    | some ms =>
      rw [e] at h'
      cases h'
      rw [intsD_eq e] <;> rfl
  | .non :: _, _, h => by cases h
  | .bl _ :: _, _, h => by cases h
  | .str _ :: _, _, h => by cases h
  | .lst _ :: _, _, h => by cases h
  | .tup _ :: _, _, h => by cases h
  | .obj _ _ :: _, _, h => by cases h
  | .ro _ :: _, _, h => by cases h
  | .rf _ :: _, _, h => by cases h
theorem blsD_eq : ∀ {ds : List D} {ns : List Bool}, blsD ds = some ns → ds = ns.map D.bl
  | [], ns, h => by
    cases h
    rfl
  | .bl i :: ds, ns, h => by
    have h' : (blsD ds).map (i :: ·) = some ns := h
    cases e : blsD ds with
    | none =>
      rw [e] at h'
      cases h'
    | some ms =>
      rw [e] at h'
      cases h'
      rw [blsD_eq e] <;> rfl
  | .non :: _, _, h => by cases h
  | .int _ :: _, _, h => by cases h
  | .str _ :: _, _, h => by cases h
  | .lst _ :: _, _, h => by cases h
  | .tup _ :: _, _, h => by cases h
  | .obj _ _ :: _, _, h => by cases h
  | .ro _ :: _, _, h => by cases h
  | .rf _ :: _, _, h => by cases h
@[simp] theorem intsD_map (ns : List Int) : intsD (ns.map D.int) = some ns := by
  induction ns with
  | nil => rfl
  | cons n ns ih =>
    show (intsD (ns.map D.int)).map (n :: ·) = _
    rw [ih] <;> rfl
@[simp] theorem blsD_map (ns : List Bool) : blsD (ns.map D.bl) = some ns := by
  induction ns with
  | nil => rfl
  | cons n ns ih =>
    show (blsD (ns.map D.bl)).map (n :: ·) = _
    rw [ih] <;> rfl
/-- two ascending lists with the same items are one -/
theorem sorted_one : ∀ {xs ys : List Int}, xs.Perm ys → xs.Pairwise (· ≤ ·) → ys.Pairwise (· ≤ ·) → xs = ys := by
  intro xs
  induction xs with
  | nil =>
    intro ys p _ _
    exact (List.Perm.nil_eq p)
  | cons x xs ih =>
    intro ys p h1 h2
    cases ys with
    | nil => exact absurd p.symm.nil_eq (by simp)
    | cons y ys =>
      have e : x = y := by
        have hx : x ∈ y :: ys := p.subset (List.mem_cons_self)
        have hy : y ∈ x :: xs := p.symm.subset (List.mem_cons_self)
        rw [List.pairwise_cons] at h1 h2
        rcases List.mem_cons.mp hx with z | z
        · exact z
        · rcases List.mem_cons.mp hy with w | w
          · exact w.symm
          · have a1 := h1.1 y w
            have a2 := h2.1 x z
            omega
      subst e
      rw [ih (List.Perm.cons_inv p) (List.pairwise_cons.mp h1).2 (List.pairwise_cons.mp h2).2]
theorem isortI_perm (ns : List Int) : (isortI ns).Perm ns := List.mergeSort_perm ns _
theorem isortI_sorted (ns : List Int) : (isortI ns).Pairwise (· ≤ ·) := by
  have h := List.pairwise_mergeSort (le := fun (a b : Int) => decide (a ≤ b)) (fun a b c h1 h2 => by
    simp only [decide_eq_true_eq] at h1 h2 ⊢
    omega) (fun a b => by
    simp only [Bool.or_eq_true, decide_eq_true_eq]
    omega) ns
  exact h.imp fun q => by simpa using q

section
variable {X : Cx} {cl : Cl} {e : Ent}
theorem bd1 {r : List V → Hp → VK → Prop} {k : List Cell → D → Po} (h : ∀ (F H : Hp) (ca : List Addr) (σ : L2.St) (s : S) (v : V) (d : D), Bx X cl e F H ca σ s → Is X.K cl F ca v d → PoK X cl e F H ca σ s (fun Q => r [v] H Q) (k s.ce d)) : BiD X cl e r (b1 k) :=
  fun F H ca σ s vs ds b i => by
    cases i with
    | nil => trivial
    | cons i1 t =>
      cases t with
      | nil => exact h F H ca σ s _ _ b i1
      | cons _ _ => trivial
theorem bd2 {r : List V → Hp → VK → Prop} {k : List Cell → D → D → Po} (h : ∀ (F H : Hp) (ca : List Addr) (σ : L2.St) (s : S) (v w : V) (d f : D), Bx X cl e F H ca σ s → Is X.K cl F ca v d → Is X.K cl F ca w f → PoK X cl e F H ca σ s (fun Q => r [v, w] H Q) (k s.ce d f)) : BiD X cl e r (b2 k) :=
  fun F H ca σ s vs ds b i => by
    cases i with
    | nil => trivial
    | cons i1 t =>
      cases t with
      | nil => trivial
      | cons i2 t =>
        cases t with
        | nil => exact h F H ca σ s _ _ _ _ b i1 i2
        | cons _ _ => trivial
theorem bd_abs : BiD X cl e (fun xs H Q => ∃ i, xs = [V.int i] ∧ Q (.int (if i < 0 then -i else i)) H) (b1 absD) := bd1 fun F H ca σ s v d b i => by
  cases i with
  | int i => exact .val b (.int _) fun Q q => ⟨i, rfl, q⟩
  | _ => trivial
theorem bd_max : BiD X cl e (fun xs H Q => ∃ i j, xs = [V.int i, V.int j] ∧ Q (.int (if j > i then j else i)) H) (b2 maxD) := bd2 fun F H ca σ s v w d f b i j => by
  cases i with
  | int i =>
    cases j with
    | int j => exact .val b (.int _) fun Q q => ⟨i, j, rfl, q⟩
    | _ => trivial
  | _ => cases j <;> trivial
theorem bd_min : BiD X cl e (fun xs H Q => ∃ i j, xs = [V.int i, V.int j] ∧ Q (.int (if j < i then j else i)) H) (b2 minD) := bd2 fun F H ca σ s v w d f b i j => by
  cases i with
  | int i =>
    cases j with
    | int j => exact .val b (.int _) fun Q q => ⟨i, j, rfl, q⟩
    | _ => trivial
  | _ => cases j <;> trivial
theorem bd_int : BiD X cl e (fun xs H Q => (∃ i, xs = [V.int i] ∧ Q (.int i) H) ∨ ∃ k, xs = [V.bl k] ∧ Q (.int (if k then 1 else 0)) H) (b1 intD) := bd1 fun F H ca σ s v d b i => by
  cases i with
  | int i => exact .val b (.int _) fun Q q => .inl ⟨i, rfl, q⟩
  | bl k => exact .val b (.int _) fun Q q => .inr ⟨k, rfl, q⟩
  | _ => trivial
def rLenAll (K : PySem.W.Frag) : List V → Hp → VK → Prop := fun xs H Q => (∃ p ys, xs = [.ref p] ∧ (SqL K H p ys ∨ SqT K H p ys) ∧ Q (.int ys.length) H) ∨ ∃ z, xs = [.str z] ∧ z.length ≤ sizeLine ∧ Q (.int z.length) H
theorem call_lenAll : CallR X (.builtin "len") (rLenAll X.K) := CallR.or call_len_seq call_len_str
theorem lookU_len {F H : Hp} {ca : List Addr} {σ : L2.St} {s : S} {v : V} {d : D} (b : Bx X cl e F H ca σ s) (i : Is X.K cl F ca v d) : PoK X cl e F H ca σ s (fun Q => rLenAll X.K [v] H Q) (match lookU s.ce d with
    | some xs => .v (.int xs.length)
    | none => .no) := by
  cases e1 : lookU s.ce d with
  | none => trivial
  | some xs =>
    obtain ⟨a, vs, rfl, hl, hi⟩ := lookU_ok b i e1
    refine .val b (.int _) fun Q q => .inl ⟨a, vs, rfl, hl, ?_⟩
    rw [hi.length]
    exact q
theorem bd_len : BiD X cl e (rLenAll X.K) (b1 lenD) := bd1 fun F H ca σ s v d b i => by
  have gen := lookU_len b i
  cases i with
  | str y => exact .ite fun hz => .val b (.int _) fun Q q => .inr ⟨y, rfl, sz hz, q⟩
  | _ => exact gen
theorem bd_list : BiD X cl e (fun xs H Q => ∃ p ys, xs = [V.ref p] ∧ (SqL X.K H p ys ∨ SqT X.K H p ys) ∧ ∀ l, H l = none → Q (.ref l) (upd H l (.lst ys))) (b1 listD) := bd1 fun F H ca σ s v d b i => by
  unfold listD
  cases e1 : lookU s.ce d with
  | none => trivial
  | some xs =>
    obtain ⟨a, vs, rfl, hl, hi⟩ := lookU_ok b i e1
    exact fun Q q => ⟨a, vs, rfl, hl, fun l hp => q l vs hp hi⟩
theorem bd_sorted : BiD X cl e (rSortedI X.K) (b1 sortedD) := bd1 fun F H ca σ s v d b i => by
  unfold sortedD
  cases e1 : look s.ce d with
  | none => trivial
  | some xs =>
    obtain ⟨a, vs, rfl, hl, hi⟩ := look_ok b i e1
    cases e2 : intsD xs with
    | none =>
      show PoK X cl e F H ca σ s _ (match intsD xs with
        | some ns => Po.l ((isortI ns).map .int)
        | none => .no)
      rw [e2]
      trivial
    | some ns =>
      show PoK X cl e F H ca σ s _ (match intsD xs with
        | some ns => Po.l ((isortI ns).map .int)
        | none => .no)
      rw [e2]
      rw [intsD_eq e2] at hi
      rw [of_ints hi] at hl
      refine fun Q q => ⟨a, ns, rfl, hl, fun ns' p pm so hp => ?_⟩
      rw [sorted_one (pm.trans (isortI_perm ns).symm) so (isortI_sorted ns)]
      exact q p _ hp (isL_ints _)
theorem bd_gcd : BiD X cl e rGcd (b2 gcdD) := bd2 fun F H ca σ s v w d f b i j => by
  cases i with
  | int i =>
    cases j with
    | int j => exact .val b (.int _) fun Q q => ⟨i, j, rfl, q⟩
    | _ => trivial
  | _ => cases j <;> trivial
theorem bd_all : BiD X cl e (rAll X.K) (b1 allD) := bd1 fun F H ca σ s v d b i => by
  unfold allD
  cases e1 : look s.ce d with
  | none => trivial
  | some xs =>
    obtain ⟨a, vs, rfl, hl, hi⟩ := look_ok b i e1
    cases e2 : blsD xs with
    | none =>
      show PoK X cl e F H ca σ s _ (match blsD xs with
        | some bs => Po.v (.bl (bs.all id))
        | none => .no)
      rw [e2]
      trivial
    | some ns =>
      show PoK X cl e F H ca σ s _ (match blsD xs with
        | some bs => Po.v (.bl (bs.all id))
        | none => .no)
      rw [e2]
      rw [blsD_eq e2] at hi
      rw [of_bls hi] at hl
      exact .val b (.bl _) fun Q q => ⟨a, ns, rfl, hl, q⟩
theorem bd_sum : BiD X cl e (rSum X.K) (b1 sumD) := bd1 fun F H ca σ s v d b i => by
  unfold sumD
  cases e1 : look s.ce d with
  | none => trivial
  | some xs =>
    obtain ⟨a, vs, rfl, hl, hi⟩ := look_ok b i e1
    cases e2 : intsD xs with
    | none =>
      show PoK X cl e F H ca σ s _ (match intsD xs with
        | some ns => Po.v (.int ns.sum)
        | none => .no)
      rw [e2]
      trivial
    | some ns =>
      show PoK X cl e F H ca σ s _ (match intsD xs with
        | some ns => Po.v (.int ns.sum)
        | none => .no)
      rw [e2]
      rw [intsD_eq e2] at hi
      rw [of_ints hi] at hl
      exact .val b (.int _) fun Q q => ⟨a, ns, rfl, hl, q⟩
theorem bd_str : BiD X cl e (fun xs H Q => ∃ i, xs = [V.int i] ∧ i.natAbs.log2 < 1920 ∧ Q (.str (toString i)) H) (b1 strD) := bd1 fun F H ca σ s v d b i => by
  cases i with
  | int i => exact .ite fun hz => .val b (.str _) fun Q q => ⟨i, rfl, by unfold bits at hz; omega, q⟩
  | _ => trivial

/-! ### subscripts, slices -/
def itemK (o : Option D) : Po := match o with
  | some d => .v d
  | none => .no
def atL (a : Option (List D)) (i : Int) : Po := match a with
  | some xs => itemK (atI xs i)
  | none => .no
def pIx (ce : List Cell) : D → D → Po
  | .str z, .int i => if z.length ≤ 1000000 then (match atI z.cps.toList i with
    | some c => .v (.str ⟨#[c]⟩)
    | none => .no) else .no
  | a, .int i => atL (lookU ce a) i
  | _, _ => .no
theorem isL_at {F : Hp} {ca : List Addr} {vs : List V} {ds : List D} {i : Int} {d : D} (h : IsL X.K cl F ca vs ds) (q : atI ds i = some d) : ∃ v, atI vs i = some v ∧ Is X.K cl F ca v d := by
  unfold atI at q ⊢
  rw [h.length]
  cases e1 : ixN ds.length i with
  | none =>
    rw [e1] at q
    cases q
  | some j =>
    rw [e1] at q
    have q' : ds[j]? = some d := q
    obtain ⟨v, h1, h2⟩ := h.get q'
    exact ⟨v, h1, h2⟩
theorem atL_ok {F H : Hp} {ca : List Addr} {σ : L2.St} {s : S} {v : V} {d : D} {i : Int} (b : Bx X cl e F H ca σ s) (h : Is X.K cl F ca v d) : PoK X cl e F H ca σ s (fun Q => rIx X.K v (.int i) H Q) (atL (lookU s.ce d) i) := by
  cases e1 : lookU s.ce d with
  | none => trivial
  | some xs =>
    show PoK X cl e F H ca σ s _ (itemK (atI xs i))
    cases e2 : atI xs i with
    | none => trivial
    | some x =>
      obtain ⟨a, vs, rfl, hl, hi⟩ := lookU_ok b h e1
      obtain ⟨u, h1, h2⟩ := isL_at hi e2
      rcases hl with hl | hl
      · exact .val b h2 fun Q q => .inl ⟨a, vs, i, u, rfl, rfl, hl, h1, q⟩
      · exact .val b h2 fun Q q => .inr (.inl ⟨a, vs, i, u, rfl, rfl, hl, h1, q⟩)
theorem od_ix : OpD X cl e (rIx X.K) pIx := fun F H ca σ s v1 v2 d1 d2 b h1 h2 => by
  cases h2 with
  | int i =>
    have gen := atL_ok (i := i) b h1
    cases h1 with
    | str z =>
      refine .ite fun hz => ?_
      cases e1 : atI z.cps.toList i with
      | none => trivial
      | some c => exact .val b (.str _) fun Q q => .inr (.inr ⟨z, i, c, rfl, rfl, sz hz, e1, q⟩)
    | _ => exact gen
  | _ => cases h1 <;> trivial
end
section
variable {X : Cx} {cl : Cl} {e : Ent} {W : WX} {a b : Expr} {f g : DE} {pos : Pos}
theorem d_ix (ha : PEd X cl e W a f) (hb : PEd X cl e W b g) (hs : PlainIx b := by exact fun _ _ => rfl) : PEd X cl e W (.Subscript a b pos) (dOp pIx f g) :=
  pe_w (pe_ix ix_seq ha hb hs) fun _ _ _ q => rd_op od_ix q
end
end Dv
set_option maxRecDepth 100000
set_option maxHeartbeats 4000000
/-! calls by a def's own function on data; statements -/
namespace Dv
open PySem PySem.Spec PyProof.Rows L2

/-! ### references below a bound -/
mutual
def low (n : Nat) : D → Bool
  | .non => true
  | .bl _ => true
  | .int _ => true
  | .str _ => true
  | .lst xs => lowL n xs
  | .tup xs => lowL n xs
  | .ro xs => lowL n xs
  | .obj _ fs => lowF n fs
  | .rf j => decide (j < n)
def lowL (n : Nat) : List D → Bool
  | [] => true
  | d :: ds => low n d && lowL n ds
def lowF (n : Nat) : List (Str × D) → Bool
  | [] => true
  | (_, d) :: ds => low n d && lowF n ds
end
def lowK (n : Nat) : List (Key × D) → Bool
  | [] => true
  | (_, d) :: ds => low n d && lowK n ds
def lowC (n : Nat) : Cell → Bool
  | .gone => true
  | .lst xs => lowL n xs
  | .ins _ fs => lowF n fs
  | .dic kvs => lowK n kvs
@[simp] theorem lowL_ints (n : Nat) (ns : List Int) : lowL n (ns.map D.int) = true := by
  induction ns with
  | nil => rfl
  | cons a as ih =>
    show (low n (.int a) && lowL n (as.map D.int)) = true
    rw [ih] <;> rfl
@[simp] theorem lowL_bls (n : Nat) (ns : List Bool) : lowL n (ns.map D.bl) = true := by
  induction ns with
  | nil => rfl
  | cons a as ih =>
    show (low n (.bl a) && lowL n (as.map D.bl)) = true
    rw [ih] <;> rfl
section
variable {K : PySem.W.Frag} {cl : Cl} {F H : Hp} {ca ca' : List Addr}
mutual
theorem Is.down (p : Pre ca ca') : ∀ {v : V} {d : D}, Is K cl F ca' v d → low ca.length d = true → Is K cl F ca v d
  | _, _, .non, _ => .non
  | _, _, .bl b, _ => .bl b
  | _, _, .int i, _ => .int i
  | _, _, .str s, _ => .str s
  | _, _, .lst h l, q => .lst h (IsL.down p l q)
  | _, _, .ro h l, q => .ro h (IsL.down p l q)
  | _, _, .tup h l, q => .tup h (IsL.down p l q)
  | _, _, .obj h l, q => .obj h (IsF.down p l q)
  | _, .rf j, .rf h, q => by
    have hj : j < ca.length := of_decide_eq_true q
    have e := p j _ (List.getElem?_eq_getElem hj)
    rw [h] at e
    cases e
    exact .rf (List.getElem?_eq_getElem hj)
theorem IsL.down (p : Pre ca ca') : ∀ {v : List V} {d : List D}, IsL K cl F ca' v d → lowL ca.length d = true → IsL K cl F ca v d
  | _, _, .nil, _ => .nil
  | _, d :: ds, .cons h t, q => by
    have q' : (low ca.length d && lowL ca.length ds) = true := q
    rw [Bool.and_eq_true] at q'
    exact .cons (Is.down p h q'.1) (IsL.down p t q'.2)
theorem IsF.down (p : Pre ca ca') : ∀ {v : List (Str × V)} {d : List (Str × D)}, IsF K cl F ca' v d → lowF ca.length d = true → IsF K cl F ca v d
  | _, _, .nil, _ => .nil
  | _, (k, d) :: ds, .cons h t, q => by
    have q' : (low ca.length d && lowF ca.length ds) = true := q
    rw [Bool.and_eq_true] at q'
    exact .cons (Is.down p h q'.1) (IsF.down p t q'.2)
end
theorem IsK.down (p : Pre ca ca') : ∀ {v : List (Key × V)} {d : List (Key × D)}, IsK K cl F ca' v d → lowK ca.length d = true → IsK K cl F ca v d
  | _, _, .nil, _ => .nil
  | _, (k, d) :: ds, .cons h t, q => by
    have q' : (low ca.length d && lowK ca.length ds) = true := q
    rw [Bool.and_eq_true] at q'
    exact .cons (Is.down p h q'.1) (IsK.down p t q'.2)
theorem CellOk.down (p : Pre ca ca') {a : Addr} {c : Cell} (h : CellOk K cl F H ca' a c) (q : lowC ca.length c = true) : CellOk K cl F H ca a c := by
  cases c with
  | gone => exact h
  | lst xs =>
    obtain ⟨h0, vs, h1, i⟩ := h
    exact ⟨h0, vs, h1, i.down p q⟩
  | ins c fs =>
    obtain ⟨h0, dx, vs, h1, i⟩ := h
    exact ⟨h0, dx, vs, h1, i.down p q⟩
  | dic fs =>
    obtain ⟨h0, vs, h1, i⟩ := h
    exact ⟨h0, vs, h1, i.down p q⟩
mutual
theorem Is.low : ∀ {v : V} {d : D}, Is K cl F ca v d → low ca.length d = true
  | _, _, .non => rfl
  | _, _, .bl b => rfl
  | _, _, .int i => rfl
  | _, _, .str s => rfl
  | _, _, .lst h l => IsL.low l
  | _, _, .ro h l => IsL.low l
  | _, _, .tup h l => IsL.low l
  | _, _, .obj h l => IsF.low l
  | _, _, .rf h => decide_eq_true (List.getElem?_eq_some_iff.mp h).1
theorem IsL.low : ∀ {v : List V} {d : List D}, IsL K cl F ca v d → lowL ca.length d = true
  | _, _, .nil => rfl
  | _, d :: ds, .cons h t => by
    show (Dv.low ca.length d && lowL ca.length ds) = true
    rw [Is.low h, IsL.low t] <;> rfl
theorem IsF.low : ∀ {v : List (Str × V)} {d : List (Str × D)}, IsF K cl F ca v d → lowF ca.length d = true
  | _, _, .nil => rfl
  | _, (k, d) :: ds, .cons h t => by
    show (Dv.low ca.length d && lowF ca.length ds) = true
    rw [Is.low h, IsF.low t] <;> rfl
end
theorem IsK.low : ∀ {v : List (Key × V)} {d : List (Key × D)}, IsK K cl F ca v d → lowK ca.length d = true
  | _, _, .nil => rfl
  | _, (k, d) :: ds, .cons h t => by
    show (Dv.low ca.length d && lowK ca.length ds) = true
    rw [Is.low h, IsK.low t] <;> rfl
theorem CellOk.low {a : Addr} {c : Cell} (h : CellOk K cl F H ca a c) : lowC ca.length c = true := by
  cases c with
  | gone => rfl
  | lst xs =>
    obtain ⟨h0, vs, h1, i⟩ := h
    exact i.low
  | ins c fs =>
    obtain ⟨h0, dx, vs, h1, i⟩ := h
    exact i.low
  | dic fs =>
    obtain ⟨h0, vs, h1, i⟩ := h
    exact i.low
end

/-! ### within and behind a call or a block -/
/-- what a callee leaves behind, told by its caller's cells -/
structure Af (K : PySem.W.Frag) (cl : Cl) (F H : Hp) (ca : List Addr) (F' H' : Hp) (ce' : List Cell) : Prop where
  fh : Ex F' H'
  ex : Ex F F'
  keep : ∀ b o, H b = some o → b ∉ ca → H' b = some o
  free : ∀ b o, H b = some o → F b = none → F' b = none
  hcl : ∀ b o, H b = some o → ∃ o', H' b = some o'
  cel : CeOk K cl F' H' ca ce'
section
variable {K : PySem.W.Frag} {cl : Cl} {e : Ent} {F F' H H' : Hp} {ca ca' : List Addr} {σ σ' : L2.St} {s s' : S} {ce' : List Cell}
theorem B.after (b : B K cl e F H ca σ s) (a : Af K cl F H ca F' H' ce') : B K cl e F' H' ca σ ⟨s.sl, ce', s.n0⟩ where
  fh := a.fh
  exF := b.exF.trans a.ex
  keep := fun c o q n => by
    refine a.keep c o (b.keep c o q n) fun hm => ?_
    rcases b.newc c hm with w | w
    · exact n w
    · rw [q] at w
      cases w
  free := fun c o q n => by
    obtain ⟨o', h⟩ := b.hcl c o q
    exact a.free c o' h (b.free c o q n)
  pre := b.pre
  newc := b.newc
  cel := a.cel
  len := b.len
  slo := fun i d q => by
    obtain ⟨v, h1, h2⟩ := b.slo i d q
    exact ⟨v, h1, h2.mono a.ex (Pre.refl ca)⟩
  hcl := fun c o q => by
    obtain ⟨o', h⟩ := b.hcl c o q
    exact a.hcl c o' h
  n0 := b.n0
/-- a body's start, on its caller's cells -/
theorem B.enter {vs : List V} {ds : List D} {ce : List Cell} (x : Ex F H) (c : CeOk K cl F H ca ce) (i : IsL K cl F ca vs ds) {N : List Str} (hl : vs.length ≤ N.length) :
    B K cl ⟨F, H, ca⟩ F H ca (L2.start N vs) ⟨ds.map some ++ List.replicate (N.length - ds.length) none, ce, ce.length⟩ := by
  refine ⟨x, Ex.refl F, fun _ _ q _ => q, fun _ _ _ n => n, Pre.refl ca, fun _ h => .inl h, c, ?_, fun k d q => ?_, fun _ o q => ⟨o, q⟩, c.1⟩
  · have l := i.length
    show (ds.map some ++ List.replicate (N.length - ds.length) none).length = (L2.start N vs).length
    unfold L2.start
    simp
    omega
  · have q' : (ds.map some ++ List.replicate (N.length - ds.length) none)[k]? = some (some d) := q
    have l := i.length
    by_cases hk : k < ds.length
    · rw [List.getElem?_append_left (by simpa using hk), List.getElem?_map] at q'
      cases e1 : ds[k]? with
      | none =>
        rw [e1] at q'
        cases q'
      | some d' =>
        rw [e1] at q'
        cases q'
        obtain ⟨v, h1, h2⟩ := i.get e1
        refine ⟨v, ?_, h2⟩
        unfold L2.start
        rw [List.getElem?_append_left (by simp; omega), List.getElem?_map, h1] <;> rfl
    · rw [List.getElem?_append_right (by simp; omega)] at q'
      rw [List.getElem?_replicate] at q'
      split at q' <;> cases q'
/-- a body's end, told by its caller's cells -/
theorem B.leave {ce : List Cell} (c : CeOk K cl F H ca ce) (b : B K cl ⟨F, H, ca⟩ F' H' ca' σ' s') {junk : List Cell} (hs : s'.ce = ce' ++ junk) (hl : ce'.length = ce.length) (hlow : ∀ (j : Nat) (x : Cell), ce'[j]? = some x → ce[j]? = some x ∨ lowC ce.length x = true) :
    Af K cl F H ca F' H' ce' := by
  refine ⟨b.fh, b.exF, b.keep, b.free, b.hcl, ⟨by rw [hl]; exact c.1, c.2.1, fun j a x h1 h2 => ?_⟩⟩
  have h3 : s'.ce[j]? = some x := by
    rw [hs, List.getElem?_append_left (List.getElem?_eq_some_iff.mp h2).1]
    exact h2
  have z := b.cel.2.2 j a x (b.pre j a h1) h3
  refine z.down b.pre ?_
  rcases hlow j x h2 with w | w
  · exact (c.2.2 j a x h1 w).low
  · rw [c.1]
    exact w
end

/-! ### a def by its function on data -/
inductive FR where
  | ok (d : D) (ce : List Cell)
  | nl (xs : List D) (ce : List Cell)
  | ni (c : Nat) (fs : List (Str × D)) (ce : List Cell)
  | er (x : Xc) (ce : List Cell)
  | no
abbrev Fn := List D → List Cell → FR
section
variable (K : PySem.W.Frag) (cl : Cl)
def spK (F H : Hp) (ca : List Addr) (Q : VK) (E : XK) : FR → Prop
  | .ok d ce' => ∀ v F' H', Af K cl F H ca F' H' ce' → Is K cl F' ca v d → Q v H'
  | .nl xs ce' => ∀ a vs F' H', Af K cl F H ca F' H' ce' → H' a = some (.lst vs) → IsL K cl F' ca vs xs → F' a = none → a ∉ ca → H a = none → Q (.ref a) H'
  | .ni c fs ce' => ∀ a dx vs F' H', Af K cl F H ca F' H' ce' → H' a = some (.ins (cl c) dx vs) → IsF K cl F' ca vs fs → F' a = none → a ∉ ca → H a = none → Q (.ref a) H'
  | .er x ce' => ∀ cls dd F' H', Af K cl F H ca F' H' ce' → XOk K cl F' H' ca cls dd x → E cls dd H'
  | .no => False
/-- the promise of a def of n parameters that does what m says of data -/
def spD (n : Nat) (m : Fn) : Sp := fun vs H Q E => vs.length = n ∧ ∃ F ca ce ds, Ex F H ∧ CeOk K cl F H ca ce ∧ IsL K cl F ca vs ds ∧ spK K cl F H ca Q E (m ds ce)
end
/-- a body does what the function says: from the arguments ds and the cells ce -/
def initS (n : Nat) (ds : List D) (ce : List Cell) : S := ⟨ds.map some ++ List.replicate (n - ds.length) none, ce, ce.length⟩
structure Tail (ce ce' : List Cell) (s : S) : Prop where
  ex : ∃ junk, s.ce = ce' ++ junk
  len : ce'.length = ce.length
  low : ∀ (j : Nat) (x : Cell), ce'[j]? = some x → ce[j]? = some x ∨ lowC ce.length x = true
def DoesK (ce : List Cell) (o : O) : FR → Prop
  | .ok d ce' => (∃ s, o = .rt d s ∧ low ce.length d = true ∧ Tail ce ce' s) ∨ (d = .non ∧ ∃ s, o = .nx s ∧ Tail ce ce' s)
  | .nl xs ce' => ∃ s, o = .rl xs s ∧ lowL ce.length xs = true ∧ Tail ce ce' s
  | .ni c fs ce' => ∃ s, o = .ri c fs s ∧ lowF ce.length fs = true ∧ Tail ce ce' s
  | .er x ce' => ∃ s, o = .er x s ∧ x.fs = [] ∧ Tail ce ce' s
  | .no => True
def Does (n : Nat) (b : DS) (m : Fn) : Prop := ∀ ds ce, ds.length ≤ n → DoesK ce (b (initS n ds ce)) (m ds ce)
/-- nothing of the caller's has changed -/
theorem Tail.same {ce : List Cell} {s : S} {junk : List Cell} (h : s.ce = ce ++ junk) : Tail ce ce s := ⟨⟨junk, h⟩, rfl, fun j x q => .inl q⟩
theorem Tail.id {ce : List Cell} {s : S} (h : s.ce = ce) : Tail ce ce s := ⟨⟨[], by rw [h, List.append_nil]⟩, rfl, fun j x q => .inl q⟩
/-- one cell has -/
theorem Tail.one {ce : List Cell} {s : S} {junk : List Cell} {j : Nat} {c : Cell} (h : s.ce = ce.set j c ++ junk) (hc : lowC ce.length c = true) : Tail ce (ce.set j c) s := by
  refine ⟨⟨junk, h⟩, by rw [List.length_set], fun i x q => ?_⟩
  by_cases z : i = j
  · subst z
    by_cases hi : i < ce.length
    · rw [List.getElem?_set_self hi] at q
      cases q
      exact .inr hc
    · rw [List.getElem?_eq_none (by rw [List.length_set]; omega)] at q
      cases q
  · rw [List.getElem?_set_ne (Ne.symm z)] at q
    exact .inl q

section
variable {X : Cx} {cl : Cl}
/-- the body's reading from the promise -/
theorem body_ok {n : Nat} {m : Fn} {b : DS} {N : List Str} {vs : List V} {H : Hp} {Q : VK} {E : XK} (hn : n ≤ N.length) (hd : Does N.length b m) (h : spD X.K cl n m vs H Q E) :
    ∃ e, rdS X.K cl e (fun cls d _ H => E cls d H) b { nx := fun _ H' => Q .non H', rt := Q } (L2.start N vs) H := by
  obtain ⟨hl, F, ca, ce, ds, x, c, i, q⟩ := h
  refine ⟨⟨F, H, ca⟩, F, ca, _, B.enter x c i (N := N) (by omega), ?_⟩
  have l := i.length
  have z := hd ds ce (by omega)
  unfold initS at z
  cases e1 : m ds ce with
  | ok d ce' =>
    rw [e1] at z q
    have q' : ∀ v F' H', Af X.K cl F H ca F' H' ce' → Is X.K cl F' ca v d → Q v H' := q
    rcases z with ⟨s, e2, hw, t⟩ | ⟨rfl, s, e2, t⟩
    · rw [e2]
      intro v σ' F' H' ca' b' x' p' i'
      obtain ⟨junk, hj⟩ := t.ex
      exact q' v F' H' (b'.leave c hj t.len t.low) (i'.down p' (by rw [c.1]; exact hw))
    · rw [e2]
      intro σ' F' H' ca' b' x' p'
      obtain ⟨junk, hj⟩ := t.ex
      exact q' .non F' H' (b'.leave c hj t.len t.low) .non
  | nl xs ce' =>
    rw [e1] at z q
    have q' : ∀ a vs F' H', Af X.K cl F H ca F' H' ce' → H' a = some (.lst vs) → IsL X.K cl F' ca vs xs → F' a = none → a ∉ ca → H a = none → Q (.ref a) H' := q
    obtain ⟨s, e2, hw, t⟩ := z
    rw [e2]
    intro v σ' F' H' ca' b' x' p' nl
    obtain ⟨a, ws, rfl, ha, hi, hF, hc, h0⟩ := nl
    obtain ⟨junk, hj⟩ := t.ex
    exact q' a ws F' H' (b'.leave c hj t.len t.low) ha (hi.down p' (by rw [c.1]; exact hw)) hF (fun hm => by
      obtain ⟨j, hj⟩ := List.mem_iff_getElem?.mp hm
      exact hc (List.mem_of_getElem? (p' j a hj))) h0
  | ni k fs ce' =>
    rw [e1] at z q
    have q' : ∀ a dx vs F' H', Af X.K cl F H ca F' H' ce' → H' a = some (.ins (cl k) dx vs) → IsF X.K cl F' ca vs fs → F' a = none → a ∉ ca → H a = none → Q (.ref a) H' := q
    obtain ⟨s, e2, hw, t⟩ := z
    rw [e2]
    intro v σ' F' H' ca' b' x' p' nl
    obtain ⟨a, dx, ws, rfl, ha, hi, hF, hc, h0⟩ := nl
    obtain ⟨junk, hj⟩ := t.ex
    exact q' a dx ws F' H' (b'.leave c hj t.len t.low) ha (hi.down p' (by rw [c.1]; exact hw)) hF (fun hm => by
      obtain ⟨j, hj⟩ := List.mem_iff_getElem?.mp hm
      exact hc (List.mem_of_getElem? (p' j a hj))) h0
  | er xc ce' =>
    rw [e1] at z q
    have q' : ∀ cls dd F' H', Af X.K cl F H ca F' H' ce' → XOk X.K cl F' H' ca cls dd xc → E cls dd H' := q
    obtain ⟨s, e2, hw, t⟩ := z
    rw [e2]
    intro cls dd σ' F' H' ca' b' xo
    obtain ⟨junk, hj⟩ := t.ex
    refine q' cls dd F' H' (b'.leave c hj t.len t.low) ⟨xo.1, ?_⟩
    have z := xo.2
    rw [hw] at z ⊢
    exact z
  | no =>
    rw [e1] at q
    exact False.elim q
end

/-! ### calls -/
def frK (s : S) : FR → R
  | .ok d ce => .ok d ⟨s.sl, ce, s.n0⟩
  | .nl xs ce => .nl xs ⟨s.sl, ce, s.n0⟩
  | .ni c fs ce => .ni c fs ⟨s.sl, ce, s.n0⟩
  | .er x ce => .er x ⟨s.sl, ce, s.n0⟩
  | .no => .no
def dCall (n : Nat) (m : Fn) (g : DA) : DE := fun s => bindAR (g s) fun ds s1 => if ds.length = n then frK s1 (m ds s1.ce) else .no
section
variable {X : Cx} {cl : Cl} {e : Ent} {W : WX} {ga : DA} {F H : Hp} {ca : List Addr} {σ : L2.St} {s : S} {Q : VK}
theorem sp_of {n : Nat} {m : Fn} {vs : List V} {ds : List D} (b : Bx X cl e F H ca σ s) (hl : vs.length = n) (i : IsL X.K cl F ca vs ds) (q : rdK X.K cl e W σ F ca Q (frK s (m ds s.ce))) : spD X.K cl n m vs H Q (WE W σ) := by
  refine ⟨hl, F, ca, s.ce, ds, b.fh, b.cel, i, ?_⟩
  cases e1 : m ds s.ce with
  | ok d ce' =>
    rw [e1] at q
    exact fun v F' H' a i' => q v F' H' ca (b.after a) a.ex (Pre.refl ca) i'
  | nl xs ce' =>
    rw [e1] at q
    exact fun a vs F' H' af h1 h2 h3 h4 h5 => q (.ref a) F' H' ca (b.after af) af.ex (Pre.refl ca) ⟨a, vs, rfl, h1, h2, h3, h4, b.notH0 h5⟩
  | ni c fs ce' =>
    rw [e1] at q
    exact fun a dx vs F' H' af h1 h2 h3 h4 h5 => q (.ref a) F' H' ca (b.after af) af.ex (Pre.refl ca) ⟨a, dx, vs, rfl, h1, h2, h3, h4, b.notH0 h5⟩
  | er x ce' =>
    rw [e1] at q
    exact fun cls dd F' H' af xo => q cls dd F' H' ca (b.after af) xo
  | no =>
    rw [e1] at q
    exact q
/-- f(..), f a def of the text -/
theorem rd_call {n : Nat} {m : Fn} (h : rd X.K cl e W (dCall n m ga) σ H Q) : rdA X.K cl e W ga σ H fun vs H1 => spD X.K cl n m vs H1 Q (WE W σ) := by
  obtain ⟨F, ca, s, b, q⟩ := h
  refine use_rdA b q fun vs ds s1 F1 H1 ca1 b1 i1 x1 p1 q1 => ?_
  by_cases hn : ds.length = n
  · rw [if_pos hn] at q1
    exact sp_of b1 (i1.length.trans hn) i1 q1
  · rw [if_neg hn] at q1
    exact False.elim q1
theorem d_call {n : Nat} {m : Fn} {k : Nat} {f : Addr} {fd : FuncData} {ps : List Str} {x : Str} {p pos : Pos} {a : Expr} {es : List Expr} (Fo : FnOk X.prog X.w X.K X.mg X.base (L2.CX X.prog X.w) k f fd ps (spD X.K cl n m)) (hr : Room k X.A) (hg : Gl X x) (hm : X.mg x = some (.ref f)) (hk : PySem.W.keepIn X.K (.ref f) = true)
    (hb : Binds X.K fd ps []) (tk : Takes X W) (ha : PAd X cl e W (a :: es) ga) (hdb : (x == ("__debug__" : Str)) = false := by decide) (he : starEach (a :: es) X.env = (false, eval a X.env) :: starEach es X.env := by rfl) (hpl : (backTo pos (starEach es X.env)).any (·.1) = false := by rfl) :
    PEd X cl e W (.Call (.Name x p) (a :: es) [] pos) (dCall n m ga) :=
  pe_w (pe_callS Fo hr hg hm hk hb (fun σ => passAt tk σ) ha hdb he hpl) fun _ _ _ q => rd_call q
end

/-! ### statements -/
def bindO : R → (D → S → O) → O
  | .ok d s, k => k d s
  | .er x s, _ => .er x s
  | _, _ => .no
def bindBO : RB → (Bool → S → O) → O
  | .ok d s, k => k d s
  | .er x s, _ => .er x s
  | _, _ => .no
def sSet (i : Nat) (f : DE) : DS := fun s => bindO (f s) fun d s1 => .nx ⟨s1.sl.set i (some d), s1.ce, s1.n0⟩
def seqK : O → DS → O
  | .nx s, g => g s
  | r, _ => r
def sSeq (f g : DS) : DS := fun s => seqK (f s) g
def sNext : DS := fun s => .nx s
def sBrk : DS := fun s => .bk s
def sCont : DS := fun s => .ct s
def sIf (c : DB) (f g : DS) : DS := fun s => bindBO (c s) fun b s1 => if b = true then f s1 else g s1
def retK : R → O
  | .ok d s => .rt d s
  | .nl xs s => .rl xs s
  | .ni c fs s => .ri c fs s
  | .er x s => .er x s
  | .no => .no
def sRet (f : DE) : DS := fun s => retK (f s)
def dropK' : R → O
  | .ok _ s => .nx s
  | .nl _ s => .nx s
  | .ni _ _ s => .nx s
  | .er x s => .er x s
  | .no => .no
def sDrop (f : DE) : DS := fun s => dropK' (f s)
section
variable {X : Cx} {cl : Cl} {e : Ent} {W : WX} {st : Stmt} {x : Expr} {f : DE} {rest : List Stmt} {sa sb : DS} {tb : DB} {pos : Pos}
theorem useS_rd {F H : Hp} {ca : List Addr} {σ : L2.St} {s : S} {Dn : Ends} {Z : VK} {k : D → S → O} (b : Bx X cl e F H ca σ s) (h : rdSK X.K cl e W F ca Dn (bindO (f s) k))
    (go : ∀ v d s1 F1 H1 ca1, Bx X cl e F1 H1 ca1 σ s1 → Is X.K cl F1 ca1 v d → Ex F F1 → Pre ca ca1 → rdSK X.K cl e W F1 ca1 Dn (k d s1) → Z v H1) : rd X.K cl e W f σ H Z := by
  refine ⟨F, ca, s, b, ?_⟩
  cases q : f s with
  | ok d s1 =>
    rw [q] at h
    exact fun v F1 H1 ca1 b1 x p i => go v d s1 F1 H1 ca1 b1 i x p (h.back x p)
  | er x s1 =>
    rw [q] at h
    exact fun cls dd F' H' ca' b' xo => h cls dd σ F' H' ca' b' xo
  | _ =>
    rw [q] at h
    exact False.elim h
theorem useS_rdB {F H : Hp} {ca : List Addr} {σ : L2.St} {s : S} {Dn : Ends} {Z : Bool → Hp → Prop} {k : Bool → S → O} (b : Bx X cl e F H ca σ s) (h : rdSK X.K cl e W F ca Dn (bindBO (tb s) k))
    (go : ∀ d s1 F1 H1 ca1, Bx X cl e F1 H1 ca1 σ s1 → Ex F F1 → Pre ca ca1 → rdSK X.K cl e W F1 ca1 Dn (k d s1) → Z d H1) : rdB X.K cl e W tb σ H Z := by
  refine ⟨F, ca, s, b, ?_⟩
  cases q : tb s with
  | ok d s1 =>
    rw [q] at h
    exact fun F1 H1 ca1 b1 x p => go d s1 F1 H1 ca1 b1 x p (h.back x p)
  | er x s1 =>
    rw [q] at h
    exact fun cls dd F' H' ca' b' xo => h cls dd σ F' H' ca' b' xo
  | no =>
    rw [q] at h
    exact False.elim h
theorem s_set {i : Nat} (hst : PS X st (tAsg (rd X.K cl e W f) (gName i))) : PSd X cl e W st (sSet i f) := ps_w hst fun D σ H ⟨F, ca, s, b, q⟩ => by
  refine useS_rd b q fun v d s1 F1 H1 ca1 b1 i1 x1 p1 q1 => ?_
  exact q1 _ F1 H1 ca1 (b1.put i1) (Ex.refl F1) (Pre.refl ca1)
theorem s_nil : PSsd X cl e W [] sNext := pss_w pss_nil fun D σ H ⟨F, ca, s, b, q⟩ => q σ F H ca b (Ex.refl F) (Pre.refl ca)
theorem s_one (h1 : PSd X cl e W st sa) : PSsd X cl e W [st] sa := pss_one h1
theorem s_cons (h1 : PSd X cl e W st sa) (h2 : PSsd X cl e W rest sb) : PSsd X cl e W (st :: rest) (sSeq sa sb) := pss_w (pss_cons h1 h2) fun D σ H ⟨F, ca, s, b, q⟩ => by
  refine ⟨F, ca, s, b, ?_⟩
  unfold sSeq at q
  cases e1 : sa s with
  | nx s1 =>
    rw [e1] at q
    exact fun σ' F' H' ca' b' x p => ⟨F', ca', s1, b', rdSK.back x p q⟩
  | bk s1 =>
    rw [e1] at q
    exact q
  | ct s1 =>
    rw [e1] at q
    exact q
  | rt d s1 =>
    rw [e1] at q
    exact q
  | rl d s1 =>
    rw [e1] at q
    exact q
  | ri c d s1 =>
    rw [e1] at q
    exact q
  | er x s1 =>
    rw [e1] at q
    exact q
  | no =>
    rw [e1] at q
    exact q
theorem s_break : PSd X cl e W (.Break pos) sBrk := ps_w ps_break fun D σ H ⟨F, ca, s, b, q⟩ => q σ F H ca b (Ex.refl F) (Pre.refl ca)
theorem s_continue : PSd X cl e W (.Continue pos) sCont := ps_w ps_continue fun D σ H ⟨F, ca, s, b, q⟩ => q σ F H ca b (Ex.refl F) (Pre.refl ca)
theorem s_pass : PSd X cl e W (.Pass pos) sNext := ps_w ps_pass fun D σ H ⟨F, ca, s, b, q⟩ => q σ F H ca b (Ex.refl F) (Pre.refl ca)
theorem s_if {c : Expr} {a b : List Stmt} (hc : PTd X cl e W c tb) (ha : PSsd X cl e W a sa) (hb : PSsd X cl e W b sb) : PSd X cl e W (.If c a b pos) (sIf tb sa sb) :=
  ps_w (ps_if hc ha hb) fun D σ H ⟨F, ca, s, b, q⟩ => by
    refine useS_rdB b q fun d s1 F1 H1 ca1 b1 x1 p1 q1 => ?_
    cases d with
    | true => exact ⟨F1, ca1, s1, b1, q1⟩
    | false => exact ⟨F1, ca1, s1, b1, q1⟩
theorem s_ret (h : PEd X cl e W x f) : PSd X cl e W (.Return (some x) pos) (sRet f) := ps_w (ps_ret h) fun D σ H ⟨F, ca, s, b, q⟩ => by
  refine ⟨F, ca, s, b, ?_⟩
  unfold sRet at q
  cases e1 : f s with
  | ok d s1 =>
    rw [e1] at q
    exact fun v F' H' ca' b' x p i => q v σ F' H' ca' b' x p i
  | nl d s1 =>
    rw [e1] at q
    exact fun v F' H' ca' b' x p i => q v σ F' H' ca' b' x p i
  | ni c d s1 =>
    rw [e1] at q
    exact fun v F' H' ca' b' x p i => q v σ F' H' ca' b' x p i
  | er x s1 =>
    rw [e1] at q
    exact fun cls dd F' H' ca' b' xo => q cls dd σ F' H' ca' b' xo
  | no =>
    rw [e1] at q
    exact q
theorem s_drop (hst : PS X st (tDrop (rd X.K cl e W f))) : PSd X cl e W st (sDrop f) := ps_w hst fun D σ H ⟨F, ca, s, b, q⟩ => by
  refine ⟨F, ca, s, b, ?_⟩
  unfold sDrop at q
  cases e1 : f s with
  | ok d s1 =>
    rw [e1] at q
    exact fun v F' H' ca' b' x p i => q σ F' H' ca' b' x p
  | nl d s1 =>
    rw [e1] at q
    exact fun v F' H' ca' b' x p i => q σ F' H' ca' b' x p
  | ni c d s1 =>
    rw [e1] at q
    exact fun v F' H' ca' b' x p i => q σ F' H' ca' b' x p
  | er x s1 =>
    rw [e1] at q
    exact fun cls dd F' H' ca' b' xo => q cls dd σ F' H' ca' b' xo
  | no =>
    rw [e1] at q
    exact q
end

/-! ### methods of lists, items stored -/
inductive Mo where
  | w (j : Nat) (c : Cell) (d : D)
  | v (d : D)
  | l (xs : List D)
  | no
def moK (s : S) : Mo → R
  | .w j c d => .ok d ⟨s.sl, s.ce.set j c, s.n0⟩
  | .v d => .ok d s
  | .l xs => .nl xs s
  | .no => .no
/-- o.m(..) of a list (lk: the list stands) -/
def dMt (lk : List Cell → D → Bool) (m : List Cell → D → List D → Mo) (f : DE) (g : DA) : DE := fun s => bindR (f s) fun d s1 => if lk s1.ce d = true then bindAR (g s1) fun ds s2 => moK s2 (m s2.ce d ds) else .no
def isL (ce : List Cell) (d : D) : Bool := (look ce d).isSome
def isS (_ : List Cell) : D → Bool
  | .str _ => true
  | _ => false
def MoK (X : Cx) (cl : Cl) (e : Ent) (F H : Hp) (ca : List Addr) (σ : L2.St) (s : S) (k : VK → Prop) : Mo → Prop
  | .w j c d => ∀ Q : VK, (∀ v H', Bx X cl e F H' ca σ ⟨s.sl, s.ce.set j c, s.n0⟩ → Is X.K cl F ca v d → Q v H') → k Q
  | .v d => ∀ Q : VK, (∀ v H', Bx X cl e F H' ca σ s → Is X.K cl F ca v d → Q v H') → k Q
  | .l xs => ∀ Q : VK, (∀ p vs, H p = none → IsL X.K cl F ca vs xs → Q (.ref p) (upd H p (.lst vs))) → k Q
  | .no => True
def MtD (X : Cx) (cl : Cl) (e : Ent) (r : V → List V → Hp → VK → Prop) (m : List Cell → D → List D → Mo) : Prop :=
  ∀ (F H : Hp) (ca : List Addr) (σ : L2.St) (s : S) (v : V) (d : D) (vs : List V) (ds : List D), Bx X cl e F H ca σ s → Is X.K cl F ca v d → IsL X.K cl F ca vs ds → MoK X cl e F H ca σ s (fun Q => r v vs H Q) (m s.ce d ds)
section
variable {X : Cx} {cl : Cl} {e : Ent} {W : WX} {f : DE} {ga : DA} {a x : Expr} {es : List Expr}
theorem MoK.go {F H : Hp} {ca : List Addr} {σ : L2.St} {s : S} {k : VK → Prop} {p : Mo} {Q : VK} (b : Bx X cl e F H ca σ s) (h : MoK X cl e F H ca σ s k p) (q : rdK X.K cl e W σ F ca Q (moK s p)) : k Q := by
  cases p with
  | w j c d => exact h Q fun v H' b' i => q v F H' ca b' (Ex.refl F) (Pre.refl ca) i
  | v d => exact h Q fun v H' b' i => q v F H' ca b' (Ex.refl F) (Pre.refl ca) i
  | l xs => exact h Q fun p vs hp hi => q (.ref p) F _ ca (b.laid hp) (Ex.refl F) (Pre.refl ca) ⟨p, vs, rfl, upd_same, hi, b.notF hp, b.notca hp, b.notH0 hp⟩
  | no => exact False.elim q
theorem isL_ty {F H : Hp} {ca : List Addr} {σ : L2.St} {s : S} {v : V} {d : D} (b : Bx X cl e F H ca σ s) (i : Is X.K cl F ca v d) (q : isL s.ce d = true) : tyV X.K "list" v H := by
  unfold isL at q
  cases e1 : look s.ce d with
  | none =>
    rw [e1] at q
    cases q
  | some xs =>
    obtain ⟨p, vs, rfl, hl, _⟩ := look_ok b i e1
    exact .inl ⟨rfl, vs, hl⟩
theorem isS_ty {F H : Hp} {ca : List Addr} {σ : L2.St} {s : S} {v : V} {d : D} (b : Bx X cl e F H ca σ s) (i : Is X.K cl F ca v d) (q : isS s.ce d = true) : tyV X.K "str" v H := by
  cases i with
  | str z => rfl
  | _ => cases q
theorem rd_mt {T : String} {lk : List Cell → D → Bool} {r : V → List V → Hp → VK → Prop} {m : List Cell → D → List D → Mo} (ty : ∀ (F H : Hp) (ca : List Addr) (σ : L2.St) (s : S) (v : V) (d : D), Bx X cl e F H ca σ s → Is X.K cl F ca v d → lk s.ce d = true → tyV X.K T v H)
    (hm : MtD X cl e r m) {σ : L2.St} {H : Hp} {Q : VK} (q : rd X.K cl e W (dMt lk m f ga) σ H Q) : tBM X.K T r (rd X.K cl e W f) (rdA X.K cl e W ga) σ H Q := by
  obtain ⟨F, ca, s, b, q⟩ := q
  refine use_rd b q fun v d s1 F1 H1 ca1 b1 i1 x1 p1 q1 => ?_
  by_cases hz : lk s1.ce d = true
  · rw [if_pos hz] at q1
    refine ⟨ty F1 H1 ca1 σ s1 v d b1 i1 hz, ?_⟩
    refine use_rdA b1 q1 fun vs ds s2 F2 H2 ca2 b2 i2 x2 p2 q2 => ?_
    exact (hm F2 H2 ca2 σ s2 v d vs ds b2 (i1.mono x2 p2) i2).go b2 q2
  · rw [if_neg hz] at q1
    exact False.elim q1
theorem rd_mt0 {T : String} {lk : List Cell → D → Bool} {r : V → List V → Hp → VK → Prop} {m : List Cell → D → List D → Mo} (ty : ∀ (F H : Hp) (ca : List Addr) (σ : L2.St) (s : S) (v : V) (d : D), Bx X cl e F H ca σ s → Is X.K cl F ca v d → lk s.ce d = true → tyV X.K T v H)
    (hm : MtD X cl e r m) {σ : L2.St} {H : Hp} {Q : VK} (q : rd X.K cl e W (dMt lk m f aNil) σ H Q) : tBM0 X.K T r (rd X.K cl e W f) σ H Q := by
  obtain ⟨F, ca, s, b, q⟩ := q
  refine use_rd b q fun v d s1 F1 H1 ca1 b1 i1 x1 p1 q1 => ?_
  by_cases hz : lk s1.ce d = true
  · rw [if_pos hz] at q1
    exact ⟨ty F1 H1 ca1 σ s1 v d b1 i1 hz, (hm F1 H1 ca1 σ s1 v d [] [] b1 i1 .nil).go b1 q1⟩
  · rw [if_neg hz] at q1
    exact False.elim q1
/-- a list cell's write -/
theorem MoK.wr {F H : Hp} {ca : List Addr} {σ : L2.St} {s : S} {k : VK → Prop} {j : Nat} {xs' : List D} {a : Addr} {vs' : List V} {d : D} {v : V} (b : Bx X cl e F H ca σ s) (hj : ca[j]? = some a) (hF : F a = none) (hi : IsL X.K cl F ca vs' xs') (hd : Is X.K cl F ca v d)
    (h : ∀ Q : VK, Q v (upd H a (.lst vs')) → k Q) : MoK X cl e F H ca σ s k (.w j (.lst xs') d) := fun Q q => h Q (q v _ (b.write hj hF ⟨hF, vs', upd_same, hi⟩) hd)
def mApp (ce : List Cell) : D → List D → Mo
  | .rf j, [d] => match cellL ce[j]? with
    | some xs => if xs.length < 100000 then .w j (.lst (xs ++ [d])) .non else .no
    | none => .no
  | _, _ => .no
theorem cellL_eq {o : Option Cell} {xs : List D} (h : cellL o = some xs) : o = some (.lst xs) := by
  cases o with
  | none => cases h
  | some c =>
    cases c with
    | lst ys =>
      cases h
      rfl
    | _ => cases h
theorem MoK.ite {F H : Hp} {ca : List Addr} {σ : L2.St} {s : S} {k : VK → Prop} {c : Prop} [Decidable c] {p : Mo} (h : c → MoK X cl e F H ca σ s k p) : MoK X cl e F H ca σ s k (if c then p else .no) := by
  by_cases z : c
  · rw [if_pos z]
    exact h z
  · rw [if_neg z]
    trivial
theorem md_app : MtD X cl e rAppend mApp := fun F H ca σ s v d vs ds b i is => by
  cases d with
  | rf j =>
    cases is with
    | nil => trivial
    | cons i1 t =>
      cases t with
      | cons _ _ => trivial
      | nil =>
        show MoK X cl e F H ca σ s _ (match cellL s.ce[j]? with
          | some xs => if xs.length < 100000 then .w j (.lst (xs ++ [_])) .non else .no
          | none => .no)
        cases e1 : cellL s.ce[j]? with
        | none => trivial
        | some xs =>
          obtain ⟨a, ws, rfl, ha, hH, hi, hF⟩ := cell_ok b i (cellL_eq e1)
          refine .ite fun hz => .wr b ha hF (hi.app (.one i1)) .non fun Q q => ⟨a, ws, _, rfl, rfl, hH, ?_, q⟩
          rw [hi.length]
          exact Nat.lt_of_lt_of_le hz (by decide)
  | _ => cases is <;> trivial
end
end Dv
set_option maxRecDepth 100000
set_option maxHeartbeats 4000000
/-! targets, loops, comprehensions -/
namespace Dv
open PySem PySem.Spec PyProof.Rows L2

abbrev DT := D → S → Option S
def tgN (i : Nat) : DT := fun d s => some ⟨s.sl.set i (some d), s.ce, s.n0⟩
def tgs : List DT → List D → S → Option S
  | [], [], s => some s
  | t :: ts, d :: ds, s => (t d s).bind fun s1 => tgs ts ds s1
  | _, _, _ => none
def tgT (ts : List DT) : DT := fun d s => match d with
  | .tup ds => tgs ts ds s
  | _ => none
section
variable {X : Cx} {cl : Cl}
def TgD (X : Cx) (cl : Cl) (g : TG) (t : DT) : Prop := ∀ (e : Ent) (F H : Hp) (ca : List Addr) (σ : L2.St) (s s1 : S) (v : V) (d : D), Bx X cl e F H ca σ s → Is X.K cl F ca v d → t d s = some s1 →
  ∀ Q : L2.St → Hp → Prop, (∀ σ', Bx X cl e F H ca σ' s1 → Q σ' H) → g v σ H Q
def TgsD (X : Cx) (cl : Cl) (g : TGs) (ts : List DT) : Prop := ∀ (e : Ent) (F H : Hp) (ca : List Addr) (σ : L2.St) (s s1 : S) (vs : List V) (ds : List D), Bx X cl e F H ca σ s → IsL X.K cl F ca vs ds → tgs ts ds s = some s1 →
  ∀ Q : L2.St → Hp → Prop, (∀ σ', Bx X cl e F H ca σ' s1 → Q σ' H) → g vs σ H Q
theorem td_name {i : Nat} : TgD X cl (gName i) (tgN i) := fun e F H ca σ s s1 v d b h q Q k => by
  cases q
  exact k _ (b.put h)
theorem tds_nil : TgsD X cl gNil [] := fun e F H ca σ s s1 vs ds b h q Q k => by
  cases ds with
  | nil =>
    cases h
    cases q
    exact ⟨rfl, k σ b⟩
  | cons _ _ => cases q
theorem tds_cons {g : TG} {gs : TGs} {t : DT} {ts : List DT} (h1 : TgD X cl g t) (h2 : TgsD X cl gs ts) : TgsD X cl (gCons g gs) (t :: ts) := fun e F H ca σ s s1 vs ds b h q Q k => by
  cases ds with
  | nil => cases q
  | cons d ds =>
    cases h with
    | cons i it =>
      have q' : (t d s).bind (fun s1 => tgs ts ds s1) = some s1 := q
      cases e1 : t d s with
      | none =>
        rw [e1] at q'
        cases q'
      | some s2 =>
        rw [e1] at q'
        exact ⟨_, _, rfl, h1 e F H ca σ s s2 _ d b i e1 _ fun σ' b' => h2 e F H ca σ' s2 s1 _ ds b' it q' Q k⟩
theorem tgs_len : ∀ {ts : List DT} {ds : List D} {s s1 : S}, tgs ts ds s = some s1 → ds.length = ts.length
  | [], [], _, _, _ => rfl
  | t :: ts, d :: ds, s, s1, q => by
    have q' : (t d s).bind (fun s1 => tgs ts ds s1) = some s1 := q
    cases e1 : t d s with
    | none =>
      rw [e1] at q'
      cases q'
    | some s2 =>
      rw [e1] at q'
      rw [List.length_cons, List.length_cons, tgs_len (ts := ts) q']
  | [], _ :: _, _, _, q => by cases q
  | _ :: _, [], _, _, q => by cases q
theorem td_tup {gs : TGs} {ts : List DT} {n : Nat} (h : TgsD X cl gs ts) (hn : ts.length = n) : TgD X cl (gTup X.K n gs) (tgT ts) := fun e F H ca σ s s1 v d b i q Q k => by
  cases i with
  | tup hl hi =>
    have q' : tgs ts _ s = some s1 := q
    exact ⟨_, _, rfl, ex_t b.fh hl, by rw [hi.length, tgs_len q', hn], h e F H ca σ s s1 _ _ b hi q' Q k⟩
  | _ => cases q
end
/-- target = value -/
def tgK (s : S) : Option S → O
  | some s1 => .nx s1
  | none => .no
def sAsg (t : DT) (f : DE) : DS := fun s => bindO (f s) fun d s1 => tgK s1 (t d s1)
section
variable {X : Cx} {cl : Cl} {e : Ent} {W : WX} {st : Stmt} {f : DE} {g : TG} {t : DT}
theorem s_asg (ht : TgD X cl g t) (hst : PS X st (tAsg (rd X.K cl e W f) g)) : PSd X cl e W st (sAsg t f) := ps_w hst fun D σ H ⟨F, ca, s, b, q⟩ => by
  refine useS_rd b q fun v d s1 F1 H1 ca1 b1 i1 x1 p1 q1 => ?_
  cases e1 : t d s1 with
  | none =>
    rw [e1] at q1
    exact False.elim q1
  | some s2 =>
    rw [e1] at q1
    exact ht e F1 H1 ca1 σ s1 s2 v d b1 i1 e1 _ fun σ' b' => q1 σ' F1 H1 ca1 b' (Ex.refl F1) (Pre.refl ca1)
end

/-! ### for -/
def loopK : O → (S → O) → O
  | .nx s, k => k s
  | .ct s, k => k s
  | .bk s, _ => .nx s
  | r, _ => r
def tgO (k : S → O) : Option S → O
  | some s => k s
  | none => .no
def loop (t : DT) (body : DS) : List D → S → O
  | [], s => .nx s
  | d :: ds, s => tgO (fun s1 => loopK (body s1) (loop t body ds)) (t d s)
/-- what is walked: the items known at the start -/
inductive RI where
  | ok (xs : List D) (s : S)
  | er (x : Xc) (s : S)
  | no
abbrev DI := S → RI
def bindIO : RI → (List D → S → O) → O
  | .ok d s, k => k d s
  | .er x s, _ => .er x s
  | .no, _ => .no
def bindIR : RI → (List D → S → R) → R
  | .ok d s, k => k d s
  | .er x s, _ => .er x s
  | .no, _ => .no
def sFor (it : DI) (t : DT) (body : DS) : DS := fun s => bindIO (it s) fun xs s1 => loop t body xs s1
section
variable {X : Cx} {cl : Cl} {e : Ent} {W : WX} {g : TG} {t : DT} {body : DS}
/-- between two turns: what is left to do -/
def Mid (X : Cx) (cl : Cl) (e : Ent) (W : WX) (t : DT) (body : DS) (Dn : Ends) (F0 : Hp) (ca0 : List Addr) (ds : List D) (σ : L2.St) (H : Hp) : Prop :=
  ∃ F ca s, Bx X cl e F H ca σ s ∧ Ex F0 F ∧ Pre ca0 ca ∧ rdSK X.K cl e W F ca Dn (loop t body ds s)
theorem mid_turn {Dn : Ends} {F0 F H : Hp} {ca0 ca : List Addr} {σ : L2.St} {s : S} {v : V} {d : D} {ds : List D} (ht : TgD X cl g t) (b : Bx X cl e F H ca σ s) (x : Ex F0 F) (p : Pre ca0 ca) (i : Is X.K cl F ca v d)
    (q : rdSK X.K cl e W F ca Dn (loop t body (d :: ds) s)) :
    g v σ H fun σ2 H2 => rdS X.K cl e W body { Dn with nx := Mid X cl e W t body Dn F0 ca0 ds, ct := Mid X cl e W t body Dn F0 ca0 ds, bk := Dn.nx } σ2 H2 := by
  have q' : rdSK X.K cl e W F ca Dn (tgO (fun s1 => loopK (body s1) (loop t body ds)) (t d s)) := q
  cases e1 : t d s with
  | none =>
    rw [e1] at q'
    exact False.elim q'
  | some s1 =>
    rw [e1] at q'
    refine ht e F H ca σ s s1 v d b i e1 _ fun σ' b' => ⟨F, ca, s1, b', ?_⟩
    have q2 : rdSK X.K cl e W F ca Dn (loopK (body s1) (loop t body ds)) := q'
    cases e2 : body s1 with
    | nx s2 =>
      rw [e2] at q2
      exact fun σ2 F2 H2 ca2 b2 x2 p2 => ⟨F2, ca2, s2, b2, x.trans x2, p.trans p2, rdSK.back x2 p2 q2⟩
    | ct s2 =>
      rw [e2] at q2
      exact fun σ2 F2 H2 ca2 b2 x2 p2 => ⟨F2, ca2, s2, b2, x.trans x2, p.trans p2, rdSK.back x2 p2 q2⟩
    | bk s2 =>
      rw [e2] at q2
      exact q2
    | rt d s2 =>
      rw [e2] at q2
      exact q2
    | rl d s2 =>
      rw [e2] at q2
      exact q2
    | ri c d s2 =>
      rw [e2] at q2
      exact q2
    | er xc s2 =>
      rw [e2] at q2
      exact q2
    | no =>
      rw [e2] at q2
      exact q2
theorem mid_end {Dn : Ends} {F0 H : Hp} {ca0 : List Addr} {σ : L2.St} (m : Mid X cl e W t body Dn F0 ca0 [] σ H) : Dn.nx σ H := by
  obtain ⟨F, ca, s, b, x, p, q⟩ := m
  exact q σ F H ca b (Ex.refl F) (Pre.refl ca)

/-- what a walked thing's reading is, by the items -/
structure ItD (X : Cx) (cl : Cl) (e : Ent) (W : WX) (wi : TI) (it : DI) : Prop where
  run : ∀ (F H : Hp) (ca : List Addr) (σ : L2.St) (s : S) (g : TG) (t : DT) (body : DS) (Dn : Ends), Bx X cl e F H ca σ s → TgD X cl g t → rdSK X.K cl e W F ca Dn (bindIO (it s) fun xs s1 => loop t body xs s1) → tFor wi g (rdS X.K cl e W body) Dn σ H
theorem s_for {wi : TI} {it : DI} {iter tgx : Expr} {bd : List Stmt} {pos : Pos} (hi : ItD X cl e W wi it) (hg : TgD X cl g t) (hst : PS X (.For tgx iter bd [] pos) (tFor wi g (rdS X.K cl e W body))) : PSd X cl e W (.For tgx iter bd [] pos) (sFor it t body) :=
  ps_w hst fun D σ H ⟨F, ca, s, b, q⟩ => hi.run F H ca σ s g t body D b hg q

/-! the walked things -/
def itK : R → RI
  | .ok (.lst xs) s => .ok xs s
  | .ok (.ro xs) s => .ok xs s
  | .nl xs s => .ok xs s
  | .er x s => .er x s
  | _ => .no
/-- a list (data, or just made) -/
def iL (f : DE) : DI := fun s => itK (f s)
def itT : R → RI
  | .ok (.tup xs) s => .ok xs s
  | .er x s => .er x s
  | _ => .no
def iT (f : DE) : DI := fun s => itT (f s)
theorem isL_len_of {F : Hp} {ca : List Addr} {vs : List V} {ds : List D} (h : IsL X.K cl F ca vs ds) {i : Nat} {v : V} (hv : vs[i]? = some v) : ∃ d, ds.drop i = d :: ds.drop (i + 1) ∧ Is X.K cl F ca v d := by
  obtain ⟨d, h1, h2⟩ := h.getV hv
  obtain ⟨hl, he⟩ := List.getElem?_eq_some_iff.mp h1
  exact ⟨d, by rw [List.drop_eq_getElem_cons hl, he], h2⟩
theorem for_data {F1 H1 : Hp} {ca1 : List Addr} {σ : L2.St} {s1 : S} {Dn : Ends} {a : Addr} {vs : List V} {xs : List D} (ht : TgD X cl g t) (b1 : Bx X cl e F1 H1 ca1 σ s1) (hl : SqL X.K F1 a vs) (hi : IsL X.K cl F1 ca1 vs xs) (q : rdSK X.K cl e W F1 ca1 Dn (loop t body xs s1)) :
    ∃ W' : Nat → Nat → L2.St → Hp → Prop, (∃ m, W' 0 m σ H1) ∧ ∀ i m σ H, W' i m σ H →
      ((Itl X.K a).stop i H ∧ Dn.nx σ H) ∨ ((Itl X.K a).go i H ∧ ∃ N : L2.St → Hp → Prop, (∀ σ' H', N σ' H' → ∃ m', m' < m ∧ W' (i + 1) m' σ' H') ∧ ∀ x H', (Itl X.K a).yld i H x H' → g x σ H' fun σ2 H2 => rdS X.K cl e W body { Dn with nx := N, ct := N, bk := Dn.nx } σ2 H2) := by
  refine for_list (K := X.K) (a := a) (xs := vs) (fun i σ H => Mid X cl e W t body Dn F1 ca1 (xs.drop i) σ H) ⟨F1, ca1, s1, b1, Ex.refl F1, Pre.refl ca1, q⟩ (fun i σ H hle ⟨F, ca, s, b, x, p, _⟩ => ex_l (x.trans b.fh) hl) (fun i v σ H hv m => ?_) (fun σ H m => ?_)
  · obtain ⟨F, ca, s, b, x, p, q⟩ := m
    obtain ⟨d, e1, i1⟩ := isL_len_of hi hv
    rw [e1] at q
    exact mid_turn ht b x p (i1.mono x p) q
  · rw [hi.length, List.drop_length] at m
    exact mid_end m
theorem it_list {f : DE} : ItD X cl e W (iList X.K (rd X.K cl e W f)) (iL f) := ⟨fun F H ca σ s g t body Dn b ht q => by
  refine ⟨F, ca, s, b, ?_⟩
  unfold iL at q
  cases e1 : f s with
  | ok d s1 =>
    rw [e1] at q
    intro v F1 H1 ca1 b1 x1 p1 i1
    cases i1 with
    | lst hl hi => exact ⟨_, rfl, ⟨_, SqL.of (b1.fh _ _ hl)⟩, for_data ht b1 (SqL.of hl) hi (rdSK.back x1 p1 q)⟩
    | ro hl hi => exact ⟨_, rfl, ⟨_, ex_l b1.fh hl⟩, for_data ht b1 hl hi (rdSK.back x1 p1 q)⟩
    | _ => exact False.elim q
  | nl xs s1 =>
    rw [e1] at q
    intro v F1 H1 ca1 b1 x1 p1 n1
    obtain ⟨F2, x2, b2, i2⟩ := n1.fix b1
    cases i2 with
    | lst hl hi => exact ⟨_, rfl, ⟨_, SqL.of (b2.fh _ _ hl)⟩, for_data ht b2 (SqL.of hl) hi (rdSK.back (x1.trans x2) p1 q)⟩
  | er x s1 =>
    rw [e1] at q
    exact fun cls dd F' H' ca' b' xo => q cls dd σ F' H' ca' b' xo
  | _ =>
    rw [e1] at q
    exact False.elim q⟩
theorem for_tupd {F1 H1 : Hp} {ca1 : List Addr} {σ : L2.St} {s1 : S} {Dn : Ends} {a : Addr} {vs : List V} {xs : List D} (ht : TgD X cl g t) (b1 : Bx X cl e F1 H1 ca1 σ s1) (hl : SqT X.K F1 a vs) (hi : IsL X.K cl F1 ca1 vs xs) (q : rdSK X.K cl e W F1 ca1 Dn (loop t body xs s1)) :
    ∃ W' : Nat → Nat → L2.St → Hp → Prop, (∃ m, W' 0 m σ H1) ∧ ∀ i m σ H, W' i m σ H →
      ((Itt X.K a).stop i H ∧ Dn.nx σ H) ∨ ((Itt X.K a).go i H ∧ ∃ N : L2.St → Hp → Prop, (∀ σ' H', N σ' H' → ∃ m', m' < m ∧ W' (i + 1) m' σ' H') ∧ ∀ x H', (Itt X.K a).yld i H x H' → g x σ H' fun σ2 H2 => rdS X.K cl e W body { Dn with nx := N, ct := N, bk := Dn.nx } σ2 H2) := by
  refine for_tup (K := X.K) (a := a) (xs := vs) (fun i σ H => Mid X cl e W t body Dn F1 ca1 (xs.drop i) σ H) ⟨F1, ca1, s1, b1, Ex.refl F1, Pre.refl ca1, q⟩ (fun i σ H hle ⟨F, ca, s, b, x, p, _⟩ => ex_t (x.trans b.fh) hl) (fun i v σ H hv m => ?_) (fun σ H m => ?_)
  · obtain ⟨F, ca, s, b, x, p, q⟩ := m
    obtain ⟨d, e1, i1⟩ := isL_len_of hi hv
    rw [e1] at q
    exact mid_turn ht b x p (i1.mono x p) q
  · rw [hi.length, List.drop_length] at m
    exact mid_end m
theorem it_tup {f : DE} : ItD X cl e W (iTup X.K (rd X.K cl e W f)) (iT f) := ⟨fun F H ca σ s g t body Dn b ht q => by
  refine ⟨F, ca, s, b, ?_⟩
  unfold iT at q
  cases e1 : f s with
  | ok d s1 =>
    rw [e1] at q
    intro v F1 H1 ca1 b1 x1 p1 i1
    cases i1 with
    | tup hl hi => exact ⟨_, rfl, ⟨_, ex_t b1.fh hl⟩, for_tupd ht b1 hl hi (rdSK.back x1 p1 q)⟩
    | _ => exact False.elim q
  | er x s1 =>
    rw [e1] at q
    exact fun cls dd F' H' ca' b' xo => q cls dd σ F' H' ca' b' xo
  | _ =>
    rw [e1] at q
    exact False.elim q⟩
/-- range(..) -/
def rngD (lo : Int) (n : Nat) : List D := (List.range n).map fun k => D.int (lo + (k : Nat))
theorem rngD_drop {lo : Int} {n i : Nat} (h : i < n) : (rngD lo n).drop i = D.int (lo + (i : Nat)) :: (rngD lo n).drop (i + 1) := by
  have hl : i < (rngD lo n).length := by simpa [rngD] using h
  rw [List.drop_eq_getElem_cons hl]
  simp [rngD]
theorem rngD_len (lo : Int) (n : Nat) : (rngD lo n).length = n := by simp [rngD]
def rng1 : List D → Option (List D)
  | [.int n] => if n.natAbs ≤ 1000000000000 then some (rngD 0 n.toNat) else none
  | _ => none
def rng2 : List D → Option (List D)
  | [.int a, .int n] => if a.natAbs ≤ 1000000000000 ∧ n.natAbs ≤ 1000000000000 then some (rngD a (n - a).toNat) else none
  | _ => none
theorem rng1_eq {ds xs : List D} (h : rng1 ds = some xs) : ∃ n : Int, ds = [.int n] ∧ n.natAbs ≤ 1000000000000 ∧ xs = rngD 0 n.toNat := by
  unfold rng1 at h
  split at h
  · split at h
    · cases h
      exact ⟨_, rfl, by assumption, rfl⟩
    · cases h
  · cases h
theorem rng2_eq {ds xs : List D} (h : rng2 ds = some xs) : ∃ a n : Int, ds = [.int a, .int n] ∧ (a.natAbs ≤ 1000000000000 ∧ n.natAbs ≤ 1000000000000) ∧ xs = rngD a (n - a).toNat := by
  unfold rng2 at h
  split at h
  · split at h
    · cases h
      exact ⟨_, _, rfl, by assumption, rfl⟩
    · cases h
  · cases h
def opI (s : S) : Option (List D) → RI
  | some xs => .ok xs s
  | none => .no
def bindAI : RA → (List D → S → RI) → RI
  | .ok d s, k => k d s
  | .er x s, _ => .er x s
  | .no, _ => .no
def iA (k : List D → Option (List D)) (g : DA) : DI := fun s => bindAI (g s) fun ds s1 => opI s1 (k ds)
theorem for_ints {F1 H1 : Hp} {ca1 : List Addr} {σ : L2.St} {s1 : S} {Dn : Ends} {lo : Int} {n : Nat} (ht : TgD X cl g t) (b1 : Bx X cl e F1 H1 ca1 σ s1) (q : rdSK X.K cl e W F1 ca1 Dn (loop t body (rngD lo n) s1)) :
    ∃ W' : Nat → Nat → L2.St → Hp → Prop, (∃ m, W' 0 m σ H1) ∧ ∀ i m σ H, W' i m σ H →
      ((Itr lo n).stop i H ∧ Dn.nx σ H) ∨ ((Itr lo n).go i H ∧ ∃ N : L2.St → Hp → Prop, (∀ σ' H', N σ' H' → ∃ m', m' < m ∧ W' (i + 1) m' σ' H') ∧ ∀ x H', (Itr lo n).yld i H x H' → g x σ H' fun σ2 H2 => rdS X.K cl e W body { Dn with nx := N, ct := N, bk := Dn.nx } σ2 H2) := by
  refine for_range (lo := lo) (n := n) (fun i σ H => Mid X cl e W t body Dn F1 ca1 ((rngD lo n).drop i) σ H) ⟨F1, ca1, s1, b1, Ex.refl F1, Pre.refl ca1, q⟩ (fun i σ H hlt m => ?_) (fun σ H m => ?_)
  · obtain ⟨F, ca, s, b, x, p, q⟩ := m
    rw [rngD_drop hlt] at q
    exact mid_turn ht b x p (.int _) q
  · have e1 : (rngD lo n).drop n = [] := List.drop_eq_nil_of_le (by rw [rngD_len]; exact Nat.le_refl n)
    rw [e1] at m
    exact mid_end m
theorem ints1 {F : Hp} {ca : List Addr} {vs : List V} {n : Int} (h : IsL X.K cl F ca vs [.int n]) : vs = [.int n] := by
  cases h with
  | cons i t =>
    cases t
    cases i
    rfl
theorem ints2 {F : Hp} {ca : List Addr} {vs : List V} {a n : Int} (h : IsL X.K cl F ca vs [.int a, .int n]) : vs = [.int a, .int n] := by
  cases h with
  | cons i t =>
    cases t with
    | cons i2 t =>
      cases t
      cases i
      cases i2
      rfl
theorem use_iA {ga : DA} {k : List D → Option (List D)} {F H : Hp} {ca : List Addr} {σ : L2.St} {s : S} {Dn : Ends} {Z : List V → Hp → Prop} (b : Bx X cl e F H ca σ s) (q : rdSK X.K cl e W F ca Dn (bindIO (iA k ga s) fun xs s1 => loop t body xs s1))
    (go : ∀ vs ds xs s1 F1 H1 ca1, Bx X cl e F1 H1 ca1 σ s1 → IsL X.K cl F1 ca1 vs ds → k ds = some xs → rdSK X.K cl e W F1 ca1 Dn (loop t body xs s1) → Z vs H1) : rdA X.K cl e W ga σ H Z := by
  refine ⟨F, ca, s, b, ?_⟩
  unfold iA at q
  cases e1 : ga s with
  | ok ds s1 =>
    rw [e1] at q
    intro vs F1 H1 ca1 b1 x1 p1 i1
    have q' : rdSK X.K cl e W F ca Dn (bindIO (opI s1 (k ds)) fun xs s1 => loop t body xs s1) := q
    cases e2 : k ds with
    | none =>
      rw [e2] at q'
      exact False.elim q'
    | some xs =>
      rw [e2] at q'
      exact go vs ds xs s1 F1 H1 ca1 b1 i1 e2 (rdSK.back x1 p1 q')
  | er x s1 =>
    rw [e1] at q
    exact fun cls dd F' H' ca' b' xo => q cls dd σ F' H' ca' b' xo
  | no =>
    rw [e1] at q
    exact False.elim q
theorem it_rng1 {ga : DA} : ItD X cl e W (iRng1 (rdA X.K cl e W ga)) (iA rng1 ga) := ⟨fun F H ca σ s g t body Dn b ht q => by
  refine use_iA b q fun vs ds xs s1 F1 H1 ca1 b1 i1 hk q1 => ?_
  obtain ⟨n, rfl, hb, rfl⟩ := rng1_eq hk
  exact ⟨n, ints1 i1, by omega, by omega, for_ints ht b1 q1⟩⟩
theorem it_rng2 {ga : DA} : ItD X cl e W (iRng2 (rdA X.K cl e W ga)) (iA rng2 ga) := ⟨fun F H ca σ s g t body Dn b ht q => by
  refine use_iA b q fun vs ds xs s1 F1 H1 ca1 b1 i1 hk q1 => ?_
  obtain ⟨a, n, rfl, hb, rfl⟩ := rng2_eq hk
  exact ⟨a, n, ints2 i1, ⟨by omega, by omega, by omega, by omega⟩, for_ints ht b1 q1⟩⟩

/-! enumerate, zip of lists -/
def pairs : List D → List D → List D
  | a :: as, b :: bs => .tup [a, b] :: pairs as bs
  | _, _ => []
def enumD (k : Nat) : List D → List D
  | [] => []
  | d :: ds => .tup [.int (k : Int), d] :: enumD (k + 1) ds
def frL : D → Option (List D)
  | .lst xs => some xs
  | .ro xs => some xs
  | _ => none
theorem frL_ok {F : Hp} {ca : List Addr} {v : V} {d : D} {xs : List D} (h : Is X.K cl F ca v d) (q : frL d = some xs) : ∃ a vs, v = .ref a ∧ SqL X.K F a vs ∧ IsL X.K cl F ca vs xs := by
  cases h with
  | lst hl hi =>
    cases q
    exact ⟨_, _, rfl, SqL.of hl, hi⟩
  | ro hl hi =>
    cases q
    exact ⟨_, _, rfl, hl, hi⟩
  | _ => cases q
def zipK : List D → Option (List D)
  | [a, b] => match frL a, frL b with
    | some xs, some ys => if xs.length = ys.length then some (pairs xs ys) else none
    | _, _ => none
  | _ => none
def enumK : List D → Option (List D)
  | [a] => (frL a).map (enumD 0)
  | _ => none
theorem pairs_drop : ∀ {xs ys : List D} {i : Nat} {x y : D}, xs[i]? = some x → ys[i]? = some y → (pairs xs ys).drop i = .tup [x, y] :: (pairs xs ys).drop (i + 1)
  | [], _, _, _, _, h, _ => by simp at h
  | _ :: _, [], _, _, _, _, h => by simp at h
  | a :: as, b :: bs, 0, x, y, h1, h2 => by
    simp at h1 h2
    subst h1
    subst h2
    rfl
  | a :: as, b :: bs, i + 1, x, y, h1, h2 => by
    have ih := pairs_drop (xs := as) (ys := bs) (i := i) (x := x) (y := y) (by simpa using h1) (by simpa using h2)
    exact ih
theorem pairs_end : ∀ {xs ys : List D}, (pairs xs ys).drop xs.length = []
  | [], _ => by simp [pairs]
  | _ :: _, [] => by simp [pairs]
  | a :: as, b :: bs => pairs_end (xs := as) (ys := bs)
theorem enum_drop : ∀ {xs : List D} {i k : Nat} {x : D}, xs[i]? = some x → (enumD k xs).drop i = .tup [.int ((k + i : Nat) : Int), x] :: (enumD k xs).drop (i + 1)
  | [], _, _, _, h => by simp at h
  | a :: as, 0, k, x, h => by
    simp at h
    subst h
    rfl
  | a :: as, i + 1, k, x, h => by
    have ih := enum_drop (xs := as) (i := i) (k := k + 1) (x := x) (by simpa using h)
    have e1 : k + 1 + i = k + (i + 1) := by omega
    rw [e1] at ih
    exact ih
theorem enum_end : ∀ {xs : List D} {k : Nat}, (enumD k xs).drop xs.length = []
  | [], _ => rfl
  | a :: as, k => enum_end (xs := as) (k := k + 1)
/-- a pair just made is data -/
theorem Mid.pair {Dn : Ends} {F0 F H : Hp} {ca0 ca : List Addr} {σ : L2.St} {s : S} {T : Addr} {v1 v2 : V} {d1 d2 : D} {ds : List D} (ht : TgD X cl g t) (b : Bx X cl e F H ca σ s) (x : Ex F0 F) (p : Pre ca0 ca) (hT : H T = none) (i1 : Is X.K cl F ca v1 d1) (i2 : Is X.K cl F ca v2 d2)
    (q : rdSK X.K cl e W F ca Dn (loop t body (.tup [d1, d2] :: ds) s)) :
    g (.ref T) σ (upd H T (.tup [v1, v2])) fun σ2 H2 => rdS X.K cl e W body { Dn with nx := Mid X cl e W t body Dn F0 ca0 ds, ct := Mid X cl e W t body Dn F0 ca0 ds, bk := Dn.nx } σ2 H2 := by
  have hF := b.notF hT
  have ex : Ex F (upd F T (.tup [v1, v2])) := Ex.new hF
  refine mid_turn (v := .ref T) (d := .tup [d1, d2]) ht ((b.laid hT).fix upd_same hF (b.notca hT) (b.notH0 hT)) (x.trans ex) p ?_ (rdSK.back ex (Pre.refl ca) q)
  exact .tup (SqT.of upd_same) (.cons (i1.mono ex (Pre.refl ca)) (.cons (i2.mono ex (Pre.refl ca)) .nil))
theorem it_zip {ga : DA} : ItD X cl e W (iZip X.K (rdA X.K cl e W ga)) (iA zipK ga) := ⟨fun F H ca σ s g t body Dn b ht q => by
  refine use_iA b q fun vs ds xs s1 F1 H1 ca1 b1 i1 hk q1 => ?_
  unfold zipK at hk
  split at hk
  · rename_i da db
    cases e1 : frL da with
    | none =>
      rw [e1] at hk
      cases hk
    | some as =>
      rw [e1] at hk
      cases e2 : frL db with
      | none =>
        rw [e2] at hk
        cases hk
      | some bs =>
        rw [e2] at hk
        by_cases hl : as.length = bs.length
        · have hk' : (if as.length = bs.length then some (pairs as bs) else none) = some xs := hk
          rw [if_pos hl] at hk'
          cases hk'
          cases i1 with
          | cons ia it =>
            cases it with
            | cons ib it =>
              cases it
              obtain ⟨a, va, rfl, la, ja⟩ := frL_ok ia e1
              obtain ⟨c, vb, rfl, lb, jb⟩ := frL_ok ib e2
              refine ⟨a, c, va, vb, rfl, ex_l b1.fh la, ex_l b1.fh lb, ?_⟩
              refine RZ.for_zipL (xs := va) (ys := vb) (by rw [ja.length, jb.length, hl]) (fun i σ H => Mid X cl e W t body Dn F1 ca1 ((pairs as bs).drop i) σ H) ⟨F1, ca1, s1, b1, Ex.refl F1, Pre.refl ca1, q1⟩
                (fun i σ H ⟨F, ca, s, b, x, p, _⟩ => ⟨ex_l (x.trans b.fh) la, ex_l (x.trans b.fh) lb⟩) (fun i v w T σ H hv hw m hT => ?_) (fun σ H m => ?_)
              · obtain ⟨F, ca, s, b, x, p, q⟩ := m
                obtain ⟨d1, h1, j1⟩ := ja.getV hv
                obtain ⟨d2, h2, j2⟩ := jb.getV hw
                rw [pairs_drop h1 h2] at q
                exact Mid.pair ht b x p hT (j1.mono x p) (j2.mono x p) q
              · rw [ja.length, pairs_end] at m
                exact mid_end m
        · have hk' : (if as.length = bs.length then some (pairs as bs) else none) = some xs := hk
          rw [if_neg hl] at hk'
          cases hk'
  · cases hk⟩
theorem it_enum {ga : DA} : ItD X cl e W (iEnum X.K (rdA X.K cl e W ga)) (iA enumK ga) := ⟨fun F H ca σ s g t body Dn b ht q => by
  refine use_iA b q fun vs ds xs s1 F1 H1 ca1 b1 i1 hk q1 => ?_
  unfold enumK at hk
  split at hk
  · rename_i da
    cases e1 : frL da with
    | none =>
      rw [e1] at hk
      cases hk
    | some as =>
      rw [e1] at hk
      cases hk
      cases i1 with
      | cons ia it =>
        cases it
        obtain ⟨a, va, rfl, la, ja⟩ := frL_ok ia e1
        refine ⟨a, va, rfl, ex_l b1.fh la, ?_⟩
        refine ⟨fun i m σ H => m = va.length - i ∧ i ≤ va.length ∧ Mid X cl e W t body Dn F1 ca1 ((enumD 0 as).drop i) σ H, ⟨va.length, rfl, Nat.zero_le _, ⟨F1, ca1, s1, b1, Ex.refl F1, Pre.refl ca1, q1⟩⟩, ?_⟩
        rintro i m σ H ⟨rfl, hle, M⟩
        obtain ⟨F, ca, s, b, x, p, q⟩ := M
        have hq : SqL X.K H a va := ex_l (x.trans b.fh) la
        by_cases hlt : i < va.length
        · refine .inr ⟨⟨va, va[i], hq, List.getElem?_eq_getElem hlt⟩, fun σ' H' => Mid X cl e W t body Dn F1 ca1 ((enumD 0 as).drop (i + 1)) σ' H', fun σ' H' M' => ⟨va.length - (i + 1), by omega, rfl, hlt, M'⟩, fun w H' y => ?_⟩
          obtain ⟨T, x0, rfl, hT, rfl, hx⟩ := y
          have hv := hx va hq
          obtain ⟨d, h1, j1⟩ := ja.getV hv
          rw [enum_drop h1] at q
          have e0 : ((0 + i : Nat) : Int) = ((i : Nat) : Int) := by rw [Nat.zero_add]
          rw [e0] at q
          exact Mid.pair ht b x p hT (.int _) (j1.mono x p) q
        · have e2 : i = va.length := by omega
          subst e2
          refine .inl ⟨⟨va, hq, Nat.le_refl _⟩, ?_⟩
          rw [ja.length, enum_end] at q
          exact q σ F H ca b (Ex.refl F) (Pre.refl ca)
  · cases hk⟩
end
end Dv
set_option maxRecDepth 100000
set_option maxHeartbeats 4000000
/-! list comprehensions -/
namespace Dv
open PySem PySem.Spec PyProof.Rows L2

/-- nothing is wished of errors: they don't come -/
abbrev W0 : WX := fun _ _ _ _ => False
theorem takesW0 {X : Cx} : Takes X W0 := fun u s' ⟨a, B, sI, pins, σ, H, cls, d, e, I, nb, up, sky, na, os, ag, w⟩ => False.elim w

section
variable {K : PySem.W.Frag} {cl : Cl} {e : Ent} {F F' H H' : Hp} {ca ca' : List Addr} {σ σ' : L2.St} {s s' : S}
/-- behind a block of the body's own -/
theorem B.block (b : B K cl e F H ca σ s) (c : B K cl ⟨F, H, ca⟩ F' H' ca' σ' s') : B K cl e F' H' ca' σ ⟨s.sl, s'.ce, s.n0⟩ where
  fh := c.fh
  exF := b.exF.trans c.exF
  keep := fun a o q n => by
    refine c.keep a o (b.keep a o q n) fun hm => ?_
    rcases b.newc a hm with w | w
    · exact n w
    · rw [q] at w
      cases w
  free := fun a o q n => by
    obtain ⟨o', h⟩ := b.hcl a o q
    exact c.free a o' h (b.free a o q n)
  pre := b.pre.trans c.pre
  newc := fun a ha => by
    rcases c.newc a ha with w | w
    · exact b.newc a w
    · exact .inr (b.notH0 w)
  cel := c.cel
  len := b.len
  slo := fun i d q => by
    obtain ⟨v, h1, h2⟩ := b.slo i d q
    exact ⟨v, h1, h2.mono c.exF c.pre⟩
  hcl := fun a o q => by
    obtain ⟨o', h⟩ := b.hcl a o q
    exact c.hcl a o' h
  n0 := b.n0
end

def wipeD (sl : List (Option D)) : List Nat → List (Option D)
  | [] => sl
  | v :: vs => (wipeD sl vs).set v none
theorem wipeD_len (sl : List (Option D)) : ∀ vs, (wipeD sl vs).length = sl.length
  | [] => rfl
  | v :: vs => by
    unfold wipeD
    rw [List.length_set, wipeD_len sl vs]
theorem wipeD_some {sl : List (Option D)} {i : Nat} {d : D} : ∀ {vs : List Nat}, (wipeD sl vs)[i]? = some (some d) → sl[i]? = some (some d) ∧ i ∉ vs
  | [], h => ⟨h, by simp⟩
  | v :: vs, h => by
    unfold wipeD at h
    by_cases hi : v = i
    · subst hi
      by_cases hv : v < (wipeD sl vs).length
      · rw [List.getElem?_set_self hv] at h
        cases h
      · rw [List.getElem?_eq_none (by rw [List.length_set]; omega)] at h
        cases h
    · rw [List.getElem?_set_ne hi] at h
      obtain ⟨h1, h2⟩ := wipeD_some (vs := vs) h
      exact ⟨h1, by
        intro hm
        rcases List.mem_cons.mp hm with z | z
        · exact hi z.symm
        · exact h2 z⟩
theorem wipe_keep {σ : L2.St} {i : Nat} {v : V} : ∀ {vs : List Nat}, i ∉ vs → σ[i]? = some (some v) → (wipe σ vs)[i]? = some (some v)
  | [], _, h => h
  | w :: vs, hn, h => by
    unfold wipe
    rw [List.getElem?_set_ne (fun z => hn (by rw [z]; exact List.mem_cons_self))]
    exact wipe_keep (fun z => hn (List.mem_cons_of_mem _ z)) h
theorem wipe_ext {σ τ : L2.St} (hl : σ.length = τ.length) : ∀ {vs : List Nat}, (∀ i, i ∉ vs → σ[i]? = τ[i]?) → wipe σ vs = wipe τ vs := by
  intro vs h
  refine List.ext_getElem? fun i => ?_
  by_cases hi : i ∈ vs
  · have gen : ∀ (ρ : L2.St) (vs : List Nat), i ∈ vs → (wipe ρ vs)[i]? = if i < ρ.length then some none else none := by
      intro ρ vs
      induction vs with
      | nil => intro hm; cases hm
      | cons w ws ih =>
        intro hm
        unfold wipe
        by_cases z : w = i
        · subst z
          by_cases hw : w < ρ.length
          · rw [List.getElem?_set_self (by rw [wipe_length]; exact hw), if_pos hw]
          · rw [List.getElem?_eq_none (by rw [List.length_set, wipe_length]; omega), if_neg hw]
        · rw [List.getElem?_set_ne z]
          exact ih (by
            rcases List.mem_cons.mp hm with y | y
            · exact absurd y.symm z
            · exact y)
    rw [gen σ vs hi, gen τ vs hi, hl]
  · have gen : ∀ (ρ : L2.St) (vs : List Nat), i ∉ vs → (wipe ρ vs)[i]? = ρ[i]? := by
      intro ρ vs
      induction vs with
      | nil => intro _; rfl
      | cons w ws ih =>
        intro hn
        unfold wipe
        rw [List.getElem?_set_ne (fun z => hn (by rw [z]; exact List.mem_cons_self))]
        exact ih fun z => hn (List.mem_cons_of_mem _ z)
    rw [gen σ vs hi, gen τ vs hi]
    exact h i hi
/-- targets that store into vs alone -/
def TgC (X : Cx) (cl : Cl) (g : TG) (t : DT) (vs : List Nat) : Prop := ∀ (e : Ent) (F H : Hp) (ca : List Addr) (σ : L2.St) (s s1 : S) (v : V) (d : D), Bx X cl e F H ca σ s → Is X.K cl F ca v d → t d s = some s1 →
  ∀ Q : L2.St → Hp → Prop, (∀ σ', Bx X cl e F H ca σ' s1 → σ'.length = σ.length → (∀ i, i ∉ vs → σ'[i]? = σ[i]?) → Q σ' H) → g v σ H Q
def TgsC (X : Cx) (cl : Cl) (g : TGs) (ts : List DT) (vs : List Nat) : Prop := ∀ (e : Ent) (F H : Hp) (ca : List Addr) (σ : L2.St) (s s1 : S) (us : List V) (ds : List D), Bx X cl e F H ca σ s → IsL X.K cl F ca us ds → tgs ts ds s = some s1 →
  ∀ Q : L2.St → Hp → Prop, (∀ σ', Bx X cl e F H ca σ' s1 → σ'.length = σ.length → (∀ i, i ∉ vs → σ'[i]? = σ[i]?) → Q σ' H) → g us σ H Q
section
variable {X : Cx} {cl : Cl}
theorem tc_name {i : Nat} {vs : List Nat} (hi : i ∈ vs) : TgC X cl (gName i) (tgN i) vs := fun e F H ca σ s s1 v d b h q Q k => by
  cases q
  exact k _ (b.put h) (by rw [List.length_set]) fun j hj => List.getElem?_set_ne (fun z => hj (by rw [← z]; exact hi))
theorem tcs_nil {vs : List Nat} : TgsC X cl gNil [] vs := fun e F H ca σ s s1 us ds b h q Q k => by
  cases ds with
  | nil =>
    cases h
    cases q
    exact ⟨rfl, k σ b rfl fun _ _ => rfl⟩
  | cons _ _ => cases q
theorem tcs_cons {g : TG} {gs : TGs} {t : DT} {ts : List DT} {vs : List Nat} (h1 : TgC X cl g t vs) (h2 : TgsC X cl gs ts vs) : TgsC X cl (gCons g gs) (t :: ts) vs := fun e F H ca σ s s1 us ds b h q Q k => by
  cases ds with
  | nil => cases q
  | cons d ds =>
    cases h with
    | cons i it =>
      have q' : (t d s).bind (fun s1 => tgs ts ds s1) = some s1 := q
      cases e1 : t d s with
      | none =>
        rw [e1] at q'
        cases q'
      | some s2 =>
        rw [e1] at q'
        exact ⟨_, _, rfl, h1 e F H ca σ s s2 _ d b i e1 _ fun σ' b' l' w' => h2 e F H ca σ' s2 s1 _ ds b' it q' Q fun σ2 b2 l2 w2 => k σ2 b2 (l2.trans l') fun j hj => (w2 j hj).trans (w' j hj)⟩
theorem tc_tup {gs : TGs} {ts : List DT} {n : Nat} {vs : List Nat} (h : TgsC X cl gs ts vs) (hn : ts.length = n) : TgC X cl (gTup X.K n gs) (tgT ts) vs := fun e F H ca σ s s1 v d b i q Q k => by
  cases i with
  | tup hl hi =>
    have q' : tgs ts _ s = some s1 := q
    exact ⟨_, _, rfl, ex_t b.fh hl, by rw [hi.length, tgs_len q', hn], h e F H ca σ s s1 _ _ b hi q' Q k⟩
  | _ => cases q
end

/-- an iterator walks these items -/
def WkG (X : Cx) (cl : Cl) (gd : S → Bool) (J : It) (F : Hp) (ca : List Addr) (xs : List D) : Prop :=
  ∀ (e : Ent) (F1 H : Hp) (ca1 : List Addr) (σ : L2.St) (s : S), Bx X cl e F1 H ca1 σ s → Ex F F1 → Pre ca ca1 → gd s = true → J.stop xs.length H ∧
    ∀ (i : Nat) (d : D), xs[i]? = some d → J.go i H ∧ ∀ x H', J.yld i H x H' → ∃ F2, Ex F1 F2 ∧ (∀ b o, H b = some o → F1 b = none → F2 b = none) ∧ Ex H H' ∧ Bx X cl e F2 H' ca1 σ s ∧ Is X.K cl F2 ca1 x d
/-- .. whatever the state says -/
abbrev gYes : S → Bool := fun _ => true
abbrev WkD (X : Cx) (cl : Cl) (J : It) (F : Hp) (ca : List Addr) (xs : List D) : Prop := WkG X cl gYes J F ca xs
/-- what is walked -/
structure ItC (X : Cx) (cl : Cl) (e : Ent) (W : WX) (wi : TI) (it : DI) : Prop where
  run : ∀ (F H : Hp) (ca : List Addr) (σ : L2.St) (s : S) (Q : VK) (k : List D → S → R) (Z : It → Hp → Prop), Bx X cl e F H ca σ s → rdK X.K cl e W σ F ca Q (bindIR (it s) k) →
    (∀ J xs s1 F1 H1 ca1, Bx X cl e F1 H1 ca1 σ s1 → WkD X cl J F1 ca1 xs → rdK X.K cl e W σ F1 ca1 Q (k xs s1) → Z J H1) → wi σ H Z
section
variable {X : Cx} {cl : Cl} {e : Ent} {W : WX}
theorem wk_list {F : Hp} {ca : List Addr} {a : Addr} {vs : List V} {xs : List D} (hl : SqL X.K F a vs) (hi : IsL X.K cl F ca vs xs) : WkD X cl (Itl X.K a) F ca xs := fun e F1 H ca1 σ s b x p _ => by
  have h1 := ex_l (x.trans b.fh) hl
  refine ⟨⟨vs, h1, by rw [hi.length]; exact Nat.le_refl _⟩, fun i d hd => ?_⟩
  obtain ⟨v, hv, iv⟩ := hi.get hd
  refine ⟨⟨vs, v, h1, hv⟩, fun w H' y => ?_⟩
  obtain ⟨rfl, y⟩ := y
  have e1 := y vs h1
  rw [hv] at e1
  cases e1
  exact ⟨F1, Ex.refl _, fun _ _ _ n => n, Ex.refl _, b, iv.mono x p⟩
theorem wk_tup {F : Hp} {ca : List Addr} {a : Addr} {vs : List V} {xs : List D} (hl : SqT X.K F a vs) (hi : IsL X.K cl F ca vs xs) : WkD X cl (Itt X.K a) F ca xs := fun e F1 H ca1 σ s b x p _ => by
  have h1 := ex_t (x.trans b.fh) hl
  refine ⟨⟨vs, h1, by rw [hi.length]; exact Nat.le_refl _⟩, fun i d hd => ?_⟩
  obtain ⟨v, hv, iv⟩ := hi.get hd
  refine ⟨⟨vs, v, h1, hv⟩, fun w H' y => ?_⟩
  obtain ⟨rfl, y⟩ := y
  have e1 := y vs h1
  rw [hv] at e1
  cases e1
  exact ⟨F1, Ex.refl _, fun _ _ _ n => n, Ex.refl _, b, iv.mono x p⟩
theorem wk_rng {F : Hp} {ca : List Addr} {lo : Int} {n : Nat} : WkD X cl (Itr lo n) F ca (rngD lo n) := fun e F1 H ca1 σ s b x p _ => by
  refine ⟨by show n ≤ (rngD lo n).length; rw [rngD_len]; exact Nat.le_refl _, fun i d hd => ?_⟩
  have hlt : i < n := by
    have q := (List.getElem?_eq_some_iff.mp hd).1
    rw [rngD_len] at q
    exact q
  have e1 : d = .int (lo + (i : Nat)) := by
    have q : (rngD lo n)[i]? = some (D.int (lo + (i : Nat))) := by simp [rngD, hlt]
    rw [q] at hd
    exact (Option.some.inj hd).symm
  subst e1
  refine ⟨hlt, fun w H' y => ?_⟩
  obtain ⟨rfl, rfl⟩ := y
  exact ⟨F1, Ex.refl _, fun _ _ _ n => n, Ex.refl _, b, .int _⟩
theorem wk_new {F1 H : Hp} {ca1 : List Addr} {σ : L2.St} {s : S} {T : Addr} {v1 v2 : V} {d1 d2 : D} (b : Bx X cl e F1 H ca1 σ s) (hT : H T = none) (i1 : Is X.K cl F1 ca1 v1 d1) (i2 : Is X.K cl F1 ca1 v2 d2) :
    ∃ F2, Ex F1 F2 ∧ (∀ b o, H b = some o → F1 b = none → F2 b = none) ∧ Ex H (upd H T (.tup [v1, v2])) ∧ Bx X cl e F2 (upd H T (.tup [v1, v2])) ca1 σ s ∧ Is X.K cl F2 ca1 (.ref T) (.tup [d1, d2]) := by
  have hF := b.notF hT
  have ex : Ex F1 (upd F1 T (.tup [v1, v2])) := Ex.new hF
  exact ⟨_, ex, fun c o q n => by rw [upd_ne (ne_of_none q hT)]; exact n, Ex.new hT, (b.laid hT).fix upd_same hF (b.notca hT) (b.notH0 hT), .tup (SqT.of upd_same) (.cons (i1.mono ex (Pre.refl ca1)) (.cons (i2.mono ex (Pre.refl ca1)) .nil))⟩
theorem pairs_get : ∀ {xs ys : List D} {i : Nat} {d : D}, (pairs xs ys)[i]? = some d → ∃ x y, xs[i]? = some x ∧ ys[i]? = some y ∧ d = .tup [x, y]
  | [], _, _, _, h => by simp [pairs] at h
  | _ :: _, [], _, _, h => by simp [pairs] at h
  | a :: as, b :: bs, 0, d, h => by
    simp [pairs] at h
    exact ⟨a, b, rfl, rfl, h.symm⟩
  | a :: as, b :: bs, i + 1, d, h => by
    have h' : (pairs as bs)[i]? = some d := h
    obtain ⟨x, y, h1, h2, h3⟩ := pairs_get (xs := as) (ys := bs) h'
    exact ⟨x, y, by simpa using h1, by simpa using h2, h3⟩
theorem pairs_len : ∀ {xs ys : List D}, xs.length = ys.length → (pairs xs ys).length = xs.length
  | [], _, _ => rfl
  | _ :: _, [], h => by simp at h
  | a :: as, b :: bs, h => by
    show (pairs as bs).length + 1 = as.length + 1
    rw [pairs_len (by simpa using h)]
theorem wk_zip {F : Hp} {ca : List Addr} {a c : Addr} {va vb : List V} {as bs : List D} (la : SqL X.K F a va) (lb : SqL X.K F c vb) (ja : IsL X.K cl F ca va as) (jb : IsL X.K cl F ca vb bs) (hl : as.length = bs.length) : WkD X cl (Itz X.K a c) F ca (pairs as bs) := fun e F1 H ca1 σ s b x p _ => by
  have h1 := ex_l (x.trans b.fh) la
  have h2 := ex_l (x.trans b.fh) lb
  refine ⟨⟨va, vb, h1, h2, .inl (by rw [pairs_len hl, ja.length]; exact Nat.le_refl _)⟩, fun i d hd => ?_⟩
  obtain ⟨d1, d2, e1, e2, rfl⟩ := pairs_get hd
  obtain ⟨v1, hv1, i1⟩ := ja.get e1
  obtain ⟨v2, hv2, i2⟩ := jb.get e2
  refine ⟨⟨va, vb, v1, v2, h1, h2, hv1, hv2⟩, fun w H' y => ?_⟩
  obtain ⟨T, x0, y0, rfl, hT, rfl, y1, y2⟩ := y
  have z1 := y1 va h1
  have z2 := y2 vb h2
  rw [hv1] at z1
  rw [hv2] at z2
  cases z1
  cases z2
  exact wk_new b hT (i1.mono x p) (i2.mono x p)
theorem ic_list {f : DE} : ItC X cl e W (iList X.K (rd X.K cl e W f)) (iL f) := ⟨fun F H ca σ s Q k Z b q go => by
  refine ⟨F, ca, s, b, ?_⟩
  unfold iL at q
  cases e1 : f s with
  | ok d s1 =>
    rw [e1] at q
    intro v F1 H1 ca1 b1 x1 p1 i1
    cases i1 with
    | lst hl hi => exact ⟨_, rfl, ⟨_, SqL.of (b1.fh _ _ hl)⟩, go _ _ s1 F1 H1 ca1 b1 (wk_list (SqL.of hl) hi) (rdK.back x1 p1 q)⟩
    | ro hl hi => exact ⟨_, rfl, ⟨_, ex_l b1.fh hl⟩, go _ _ s1 F1 H1 ca1 b1 (wk_list hl hi) (rdK.back x1 p1 q)⟩
    | _ => exact False.elim q
  | nl xs s1 =>
    rw [e1] at q
    intro v F1 H1 ca1 b1 x1 p1 n1
    obtain ⟨F2, x2, b2, i2⟩ := n1.fix b1
    cases i2 with
    | lst hl hi => exact ⟨_, rfl, ⟨_, SqL.of (b2.fh _ _ hl)⟩, go _ _ s1 F2 H1 ca1 b2 (wk_list (SqL.of hl) hi) (rdK.back (x1.trans x2) p1 q)⟩
  | er x s1 =>
    rw [e1] at q
    exact fun cls dd F' H' ca' b' xo => q cls dd F' H' ca' b' xo
  | _ =>
    rw [e1] at q
    exact False.elim q⟩
theorem ic_tup {f : DE} : ItC X cl e W (iTup X.K (rd X.K cl e W f)) (iT f) := ⟨fun F H ca σ s Q k Z b q go => by
  refine ⟨F, ca, s, b, ?_⟩
  unfold iT at q
  cases e1 : f s with
  | ok d s1 =>
    rw [e1] at q
    intro v F1 H1 ca1 b1 x1 p1 i1
    cases i1 with
    | tup hl hi => exact ⟨_, rfl, ⟨_, ex_t b1.fh hl⟩, go _ _ s1 F1 H1 ca1 b1 (wk_tup hl hi) (rdK.back x1 p1 q)⟩
    | _ => exact False.elim q
  | er x s1 =>
    rw [e1] at q
    exact fun cls dd F' H' ca' b' xo => q cls dd F' H' ca' b' xo
  | _ =>
    rw [e1] at q
    exact False.elim q⟩
theorem use_iAR {ga : DA} {kk : List D → Option (List D)} {F H : Hp} {ca : List Addr} {σ : L2.St} {s : S} {Q : VK} {k : List D → S → R} {Z : List V → Hp → Prop} (b : Bx X cl e F H ca σ s) (q : rdK X.K cl e W σ F ca Q (bindIR (iA kk ga s) k))
    (go : ∀ vs ds xs s1 F1 H1 ca1, Bx X cl e F1 H1 ca1 σ s1 → IsL X.K cl F1 ca1 vs ds → kk ds = some xs → rdK X.K cl e W σ F1 ca1 Q (k xs s1) → Z vs H1) : rdA X.K cl e W ga σ H Z := by
  refine ⟨F, ca, s, b, ?_⟩
  unfold iA at q
  cases e1 : ga s with
  | ok ds s1 =>
    rw [e1] at q
    intro vs F1 H1 ca1 b1 x1 p1 i1
    have q' : rdK X.K cl e W σ F ca Q (bindIR (opI s1 (kk ds)) k) := q
    cases e2 : kk ds with
    | none =>
      rw [e2] at q'
      exact False.elim q'
    | some xs =>
      rw [e2] at q'
      exact go vs ds xs s1 F1 H1 ca1 b1 i1 e2 (rdK.back x1 p1 q')
  | er x s1 =>
    rw [e1] at q
    exact fun cls dd F' H' ca' b' xo => q cls dd F' H' ca' b' xo
  | no =>
    rw [e1] at q
    exact False.elim q
theorem ic_rng1 {ga : DA} : ItC X cl e W (iRng1 (rdA X.K cl e W ga)) (iA rng1 ga) := ⟨fun F H ca σ s Q k Z b q go => by
  refine use_iAR b q fun vs ds xs s1 F1 H1 ca1 b1 i1 hk q1 => ?_
  obtain ⟨n, rfl, hb, rfl⟩ := rng1_eq hk
  exact ⟨n, ints1 i1, by omega, by omega, go _ _ s1 F1 H1 ca1 b1 wk_rng q1⟩⟩
theorem ic_rng2 {ga : DA} : ItC X cl e W (iRng2 (rdA X.K cl e W ga)) (iA rng2 ga) := ⟨fun F H ca σ s Q k Z b q go => by
  refine use_iAR b q fun vs ds xs s1 F1 H1 ca1 b1 i1 hk q1 => ?_
  obtain ⟨a, n, rfl, hb, rfl⟩ := rng2_eq hk
  exact ⟨a, n, ints2 i1, ⟨by omega, by omega, by omega, by omega⟩, go _ _ s1 F1 H1 ca1 b1 wk_rng q1⟩⟩
theorem zipK_eq {ds xs : List D} (h : zipK ds = some xs) : ∃ a b as bs, ds = [a, b] ∧ frL a = some as ∧ frL b = some bs ∧ as.length = bs.length ∧ xs = pairs as bs := by
  unfold zipK at h
  split at h
  · split at h
    · split at h
      · cases h
        exact ⟨_, _, _, _, rfl, by assumption, by assumption, by assumption, rfl⟩
      · cases h
    · cases h
  · cases h
theorem ic_zip {ga : DA} : ItC X cl e W (iZip X.K (rdA X.K cl e W ga)) (iA zipK ga) := ⟨fun F H ca σ s Q k Z b q go => by
  refine use_iAR b q fun vs ds xs s1 F1 H1 ca1 b1 i1 hk q1 => ?_
  obtain ⟨da, db, as, bs, rfl, e1, e2, hl, rfl⟩ := zipK_eq hk
  cases i1 with
  | cons ia it =>
    cases it with
    | cons ib it =>
      cases it
      obtain ⟨a, va, rfl, la, ja⟩ := frL_ok ia e1
      obtain ⟨c, vb, rfl, lb, jb⟩ := frL_ok ib e2
      exact ⟨a, c, va, vb, rfl, ex_l b1.fh la, ex_l b1.fh lb, go _ _ s1 F1 H1 ca1 b1 (wk_zip la lb ja jb hl) q1⟩⟩
end

/-- a turn of a comprehension starts with its own names wiped, and nobody's cells are its own -/
def inS (vs : List Nat) (s : S) : S := ⟨wipeD s.sl vs, s.ce, s.ce.length⟩
def outS (s s1 : S) : S := ⟨s.sl, s1.ce, s.n0⟩
def okR : R → (D → S → R) → R
  | .ok d s, k => k d s
  | _, _ => .no
def okB : RB → (Bool → S → R) → R
  | .ok d s, k => k d s
  | _, _ => .no
def tgR (k : S → R) : Option S → R
  | some s => k s
  | none => .no
def compL (gd : S → Bool) (t : DT) (vs : List Nat) (c : DB) (f : DE) : List D → List D → S → R
  | [], acc, s => if gd s = true then .nl acc s else .no
  | d :: ds, acc, s => if gd s = true then tgR (fun s1 => okB (c s1) fun b s2 => if b = true then okR (f s2) (fun x s3 => if acc.length < 100000 then compL gd t vs c f ds (acc ++ [x]) (outS s s3) else .no) else compL gd t vs c f ds acc (outS s s2)) (t d (inS vs s)) else .no
def dComp (it : DI) (t : DT) (vs : List Nat) (c : DB) (f : DE) : DE := fun s => bindIR (it s) fun xs s1 => compL gYes t vs c f xs [] s1
def bYes : DB := fun s => .ok true s
section
variable {X : Cx} {cl : Cl} {e : Ent} {W : WX} {t : DT} {vs : List Nat} {c : DB} {f : DE} {g : TG}
theorem comp_core {σ : L2.St} {Q : VK} {gd : S → Bool} {J : It} {xs : List D} {s1 : S} {F1 H1 : Hp} {ca1 : List Addr} (hg : TgC X cl g t vs) (b1 : Bx X cl e F1 H1 ca1 σ s1) (wk : WkG X cl gd J F1 ca1 xs) (q1 : rdK X.K cl e W σ F1 ca1 Q (compL gd t vs c f xs [] s1)) :
    tLc (fun _ H Z => Z J H) g (fun σ H Q => ∃ e', rdB X.K cl e' W0 c σ H Q) (fun σ H Q => ∃ e', rd X.K cl e' W0 f σ H Q) vs σ H1 Q := by
  intro Dl hD
  -- between two turns
  refine ⟨fun i m H => m = xs.length - i ∧ i ≤ xs.length ∧ ∃ F ca s acc va, Bx X cl e F H ca σ s ∧ Ex F1 F ∧ Pre ca1 ca ∧ H Dl = some (.lst va) ∧ IsL X.K cl F ca va acc ∧ F Dl = none ∧ Dl ∉ ca ∧ e.H0 Dl = none ∧ rdK X.K cl e W σ F ca Q (compL gd t vs c f (xs.drop i) acc s),
    ⟨xs.length, rfl, Nat.zero_le _, F1, ca1, s1, [], [], b1.laid hD, Ex.refl _, Pre.refl _, upd_same, .nil, b1.notF hD, b1.notca hD, b1.notH0 hD, q1⟩, ?_⟩
  rintro i m H2 ⟨rfl, hle, F2, ca2, s2, acc, va, b2, x2, p2, hDl, iacc, hF2, hc2, h02, q2⟩
  have hgd : gd s2 = true := by
    cases z : gd s2 with
    | true => rfl
    | false =>
      exfalso
      cases w : xs.drop i with
      | nil =>
        rw [w] at q2
        have q3 : rdK X.K cl e W σ F2 ca2 Q (if gd s2 = true then .nl acc s2 else .no) := q2
        rw [z, if_neg (by decide)] at q3
        exact q3
      | cons d ds =>
        rw [w] at q2
        unfold compL at q2
        rw [z, if_neg (by decide)] at q2
        exact q2
  obtain ⟨wstop, wgo⟩ := wk e F2 H2 ca2 σ s2 b2 x2 p2 hgd
  by_cases hlt : i < xs.length
  · have hd : xs[i]? = some xs[i] := List.getElem?_eq_getElem hlt
    obtain ⟨go1, go2⟩ := wgo i _ hd
    refine .inr ⟨go1, fun H' => ∃ F ca s acc va, Bx X cl e F H' ca σ s ∧ Ex F1 F ∧ Pre ca1 ca ∧ H' Dl = some (.lst va) ∧ IsL X.K cl F ca va acc ∧ F Dl = none ∧ Dl ∉ ca ∧ e.H0 Dl = none ∧ rdK X.K cl e W σ F ca Q (compL gd t vs c f (xs.drop (i + 1)) acc s),
      fun H' r => ⟨xs.length - (i + 1), by omega, rfl, hlt, r⟩, fun x H3 y => ?_⟩
    obtain ⟨F3, x3, fr3, xh3, b3, i3⟩ := go2 x H3 y
    have hDl3 := xh3 Dl _ hDl
    have hF3 := fr3 Dl _ hDl hF2
    rw [List.drop_eq_getElem_cons hlt] at q2
    unfold compL at q2
    rw [if_pos hgd] at q2
    have q3 : rdK X.K cl e W σ F2 ca2 Q (tgR (fun s1 => okB (c s1) fun b s3 => if b = true then okR (f s3) (fun x s4 => if acc.length < 100000 then compL gd t vs c f (xs.drop (i + 1)) (acc ++ [x]) (outS s2 s4) else .no) else compL gd t vs c f (xs.drop (i + 1)) acc (outS s2 s3)) (t xs[i] (inS vs s2))) := q2
    -- the block's start
    have bi : Bx X cl ⟨F3, H3, ca2⟩ F3 H3 ca2 (wipe σ vs) (inS vs s2) :=
      ⟨b3.fh, Ex.refl _, fun _ _ q _ => q, fun _ _ _ n => n, Pre.refl _, fun _ h => .inl h, b3.cel, by show (wipeD s2.sl vs).length = (wipe σ vs).length; rw [wipeD_len, wipe_length]; exact b3.len,
        fun k d hk => by
          obtain ⟨h1, h2⟩ := wipeD_some hk
          obtain ⟨v, h3, h4⟩ := b3.slo k d h1
          exact ⟨v, wipe_keep h2 h3, h4⟩, fun _ o q => ⟨o, q⟩, b3.cel.1⟩
    cases e1 : t xs[i] (inS vs s2) with
    | none =>
      rw [e1] at q3
      exact False.elim q3
    | some s3 =>
      rw [e1] at q3
      have q4 : rdK X.K cl e W σ F2 ca2 Q (okB (c s3) fun b s3 => if b = true then okR (f s3) (fun x s4 => if acc.length < 100000 then compL gd t vs c f (xs.drop (i + 1)) (acc ++ [x]) (outS s2 s4) else .no) else compL gd t vs c f (xs.drop (i + 1)) acc (outS s2 s3)) := q3
      refine hg ⟨F3, H3, ca2⟩ F3 H3 ca2 (wipe σ vs) (inS vs s2) s3 x _ bi i3 e1 _ fun σ' b4 l4 w4 => ?_
      refine ⟨?_, ⟨F3, H3, ca2⟩, F3, ca2, s3, b4, ?_⟩
      · refine wipe_ext (by rw [l4, wipe_length]) fun j hj => ?_
        rw [w4 j hj]
        have gen : ∀ (ρ : L2.St) (ws : List Nat), j ∉ ws → (wipe ρ ws)[j]? = ρ[j]? := by
          intro ρ ws
          induction ws with
          | nil => intro _; rfl
          | cons w ws ih =>
            intro hn
            unfold wipe
            rw [List.getElem?_set_ne (fun z => hn (by rw [z]; exact List.mem_cons_self))]
            exact ih fun z => hn (List.mem_cons_of_mem _ z)
        exact gen σ vs hj
      cases e2 : c s3 with
      | ok bb s4 =>
        rw [e2] at q4
        intro F5 H5 ca5 b5 x5 p5
        have keepD : H5 Dl = some (.lst va) := b5.keep Dl _ hDl3 hc2
        have keepF : F5 Dl = none := b5.free Dl _ hDl3 hF3
        have keepC : Dl ∉ ca5 := fun hm => by
          rcases b5.newc Dl hm with z | z
          · exact hc2 z
          · rw [show (Ent.H0 ⟨F3, H3, ca2⟩) Dl = H3 Dl from rfl, hDl3] at z
            cases z
        cases bb with
        | false =>
          rw [if_neg (by decide)]
          have q5 : rdK X.K cl e W σ F2 ca2 Q (compL gd t vs c f (xs.drop (i + 1)) acc (outS s2 s4)) := q4
          have xa := x3.trans x5
          exact ⟨F5, ca5, outS s2 s4, acc, va, b3.block b5, x2.trans xa, p2.trans p5, keepD, iacc.mono xa p5, keepF, keepC, h02, rdK.back xa p5 q5⟩
        | true =>
          rw [if_pos rfl]
          have q5 : rdK X.K cl e W σ F2 ca2 Q (okR (f s4) (fun x s4 => if acc.length < 100000 then compL gd t vs c f (xs.drop (i + 1)) (acc ++ [x]) (outS s2 s4) else .no)) := q4
          refine ⟨⟨F3, H3, ca2⟩, F5, ca5, s4, b5, ?_⟩
          cases e3 : f s4 with
          | ok d6 s6 =>
            rw [e3] at q5
            intro v6 F6 H6 ca6 b6 x6 p6 i6
            have q6 : rdK X.K cl e W σ F2 ca2 Q (if acc.length < 100000 then compL gd t vs c f (xs.drop (i + 1)) (acc ++ [d6]) (outS s2 s6) else .no) := q5
            by_cases hz : acc.length < 100000
            · rw [if_pos hz] at q6
              have keepD6 : H6 Dl = some (.lst va) := b6.keep Dl _ hDl3 hc2
              have keepF6 : F6 Dl = none := b6.free Dl _ hDl3 hF3
              have keepC6 : Dl ∉ ca6 := fun hm => by
                rcases b6.newc Dl hm with z | z
                · exact hc2 z
                · rw [show (Ent.H0 ⟨F3, H3, ca2⟩) Dl = H3 Dl from rfl, hDl3] at z
                  cases z
              have xa := (x3.trans x5).trans x6
              have pa := p5.trans p6
              have bb := b3.block b6
              have i7 := (iacc.mono xa pa).app (.one i6)
              refine ⟨va, keepD6, ?_, F6, ca6, outS s2 s6, acc ++ [d6], va ++ [v6], ?_, x2.trans xa, p2.trans pa, upd_same, i7, keepF6, keepC6, h02, rdK.back xa pa q6⟩
              · rw [iacc.length]
                exact Nat.lt_of_lt_of_le hz (by decide)
              · -- the list so far is nobody's: it may grow
                exact { fh := fun a o h => by rw [upd_ne (ne_of_none h keepF6)]; exact bb.fh a o h
                        exF := bb.exF
                        keep := fun a o h n => by rw [upd_ne (ne_of_none h h02)]; exact bb.keep a o h n
                        free := bb.free
                        pre := bb.pre
                        newc := bb.newc
                        cel := ⟨bb.cel.1, bb.cel.2.1, fun j a y h1 h2 => (bb.cel.2.2 j a y h1 h2).mono (Ex.refl _) id (upd_ne fun z => keepC6 (z ▸ List.mem_of_getElem? h1)) (Pre.refl _)⟩
                        len := bb.len
                        slo := bb.slo
                        hcl := fun a o h => by
                          obtain ⟨o', z⟩ := bb.hcl a o h
                          exact ⟨o', by rw [upd_ne (ne_of_none h h02)]; exact z⟩
                        n0 := bb.n0 }
            · rw [if_neg hz] at q6
              exact False.elim q6
          | _ =>
            rw [e3] at q5
            exact False.elim q5
      | _ =>
        rw [e2] at q4
        exact False.elim q4
  · have e1 : i = xs.length := by omega
    subst e1
    refine .inl ⟨wstop, ?_⟩
    rw [List.drop_length] at q2
    unfold compL at q2
    rw [if_pos hgd] at q2
    have q3 : rdK X.K cl e W σ F2 ca2 Q (.nl acc s2) := q2
    exact q3 (.ref Dl) F2 H2 ca2 b2 (Ex.refl _) (Pre.refl _) ⟨Dl, va, rfl, hDl, iacc, hF2, hc2, h02⟩
theorem rd_comp {wi : TI} {it : DI} {σ : L2.St} {H : Hp} {Q : VK} (hi : ItC X cl e W wi it) (hg : TgC X cl g t vs) (h : rd X.K cl e W (dComp it t vs c f) σ H Q) :
    tLc wi g (fun σ H Q => ∃ e', rdB X.K cl e' W0 c σ H Q) (fun σ H Q => ∃ e', rd X.K cl e' W0 f σ H Q) vs σ H Q := by
  obtain ⟨F, ca, s, b, q⟩ := h
  exact hi.run F H ca σ s Q _ _ b q fun J xs s1 F1 H1 ca1 b1 wk q1 => comp_core hg b1 wk q1
end
end Dv
set_option maxRecDepth 100000
set_option maxHeartbeats 4000000
/-! comprehensions as expressions; instances; own operators; stores -/
namespace Dv
open PySem PySem.Spec PyProof.Rows L2

section
variable {X : Cx} {cl : Cl} {e : Ent} {W : WX}
theorem pe_ex {x : Expr} {t : Ent → TE} (h : ∀ e', PE X x (t e')) : PE X x (fun σ H Q => ∃ e', t e' σ H Q) := ⟨fun pins s σ H Q I ⟨e', q⟩ => (h e').run pins s σ H Q I q⟩
theorem pt_ex {x : Expr} {t : Ent → TT} (h : ∀ e', PT X x (t e')) : PT X x (fun σ H Q => ∃ e', t e' σ H Q) := ⟨fun pins s σ H Q I ⟨e', q⟩ => (h e').run pins s σ H Q I q⟩
theorem pts_yes : PTs X [] (fun σ H Q => ∃ e', rdB X.K cl e' W0 bYes σ H Q) := by
  refine ⟨fun pins s σ H Q I h => ?_⟩
  obtain ⟨e', F, ca, s', b, q⟩ := h
  exact pts_nil.run pins s σ H Q I (q F H ca b (Ex.refl F) (Pre.refl ca))
theorem d_lc {elt tgx iter : Expr} {ifs : List Expr} {scope : Scope} {own : List (Str × Nat)} {pos : Pos} {wi : TI} {g : TG} {it : DI} {t : DT} {c : DB} {f : DE} (hi : ItC X cl e W wi it) (hg : TgC X cl g t (own.map (·.2)))
    (hp : PE X (.ListComp elt [⟨tgx, iter, ifs, 0⟩] scope pos) (tLc wi g (fun σ H Q => ∃ e', rdB X.K cl e' W0 c σ H Q) (fun σ H Q => ∃ e', rd X.K cl e' W0 f σ H Q) (own.map (·.2)))) :
    PEd X cl e W (.ListComp elt [⟨tgx, iter, ifs, 0⟩] scope pos) (dComp it t (own.map (·.2)) c f) := pe_w hp fun _ _ _ q => rd_comp hi hg q

/-! ### attributes -/
def instF (c0 : Nat) (ce : List Cell) : D → Option (List (Str × D))
  | .obj c fs => if c = c0 then some fs else none
  | .rf j => match ce[j]? with
    | some (.ins c fs) => if c = c0 then some fs else none
    | _ => none
  | _ => none
theorem inst_ok {c0 : Nat} {F H : Hp} {ca : List Addr} {σ : L2.St} {s : S} {v : V} {d : D} {fs : List (Str × D)} (b : Bx X cl e F H ca σ s) (i : Is X.K cl F ca v d) (q : instF c0 s.ce d = some fs) :
    ∃ a dx vs, v = .ref a ∧ H a = some (.ins (cl c0) dx vs) ∧ IsF X.K cl F ca vs fs := by
  cases i with
  | obj hl hi =>
    have q' : (if _ = c0 then some _ else none) = some fs := q
    split at q'
    · rename_i z
      cases q'
      subst z
      exact ⟨_, _, _, rfl, b.fh _ _ hl, hi⟩
    · cases q'
  | @rf a j hj =>
    obtain ⟨c, h1, h2⟩ := b.cel.at_ hj
    have q' : (match s.ce[j]? with
      | some (Cell.ins c fs) => if c = c0 then some fs else none
      | _ => none) = some fs := q
    rw [h1] at q'
    cases c with
    | ins c fs' =>
      have q2 : (if c = c0 then some fs' else none) = some fs := q'
      split at q2
      · rename_i z
        cases q2
        subst z
        obtain ⟨_, dx, vs, h3, h4⟩ := h2
        exact ⟨_, dx, vs, rfl, h3, h4⟩
      · cases q2
    | _ => cases q'
  | _ => cases q
theorem isF_look {F : Hp} {ca : List Addr} {f : Str} : ∀ {vs : List (Str × V)} {fs : List (Str × D)} {d : D}, IsF X.K cl F ca vs fs → fs.lookup f = some d → ∃ v, vs.lookup f = some v ∧ Is X.K cl F ca v d
  | _, _, _, .nil, q => by cases q
  | (k', v) :: vs, (_, x) :: fs, d, .cons i t, q => by
    rw [List.lookup_cons] at q ⊢
    cases z : (f == k') with
    | true =>
      rw [z] at q
      cases q
      exact ⟨v, rfl, i⟩
    | false =>
      rw [z] at q
      exact isF_look t q
theorem isF_none {F : Hp} {ca : List Addr} {f : Str} : ∀ {vs : List (Str × V)} {fs : List (Str × D)}, IsF X.K cl F ca vs fs → fs.lookup f = none → vs.lookup f = none
  | _, _, .nil, q => rfl
  | (k', v) :: vs, (_, x) :: fs, .cons i t, q => by
    rw [List.lookup_cons] at q ⊢
    cases z : (f == k') with
    | true =>
      rw [z] at q
      cases q
    | false =>
      rw [z] at q
      exact isF_none t q
theorem isF_len {F : Hp} {ca : List Addr} : ∀ {vs : List (Str × V)} {fs : List (Str × D)}, IsF X.K cl F ca vs fs → vs.length = fs.length
  | _, _, .nil => rfl
  | _, _, .cons _ t => by rw [List.length_cons, List.length_cons, isF_len t]
def fldK (f : Str) : Option (List (Str × D)) → Po
  | some fs => itemK (fs.lookup f)
  | none => .no
def pFld (c0 : Nat) (f : Str) (ce : List Cell) (d : D) : Po := fldK f (instF c0 ce d)
theorem d_fld {c0 : Nat} {a : Expr} {fe : DE} {f : Str} {pos : Pos} (ha : PEd X cl e W a fe) (hc : Cls X.K (cl c0)) (hn : NoAttr X.K (cl c0) f) (hb : attributeBase a f X.env (eval a X.env) = eval a X.env := by rfl) : PEd X cl e W (.Attribute a f pos) (dUn (pFld c0 f) fe) :=
  pe_w (pe_fld ha hb) fun σ H Q ⟨F, ca, s, b, q⟩ => by
    refine use_rd b q fun v d s1 F1 H1 ca1 b1 i1 x1 p1 q1 => ?_
    unfold pFld at q1
    cases e1 : instF c0 s1.ce d with
    | none =>
      rw [e1] at q1
      exact False.elim q1
    | some fs =>
      rw [e1] at q1
      have q2 : rdK X.K cl e W σ F1 ca1 Q (poK s1 (itemK (fs.lookup f))) := q1
      cases e2 : fs.lookup f with
      | none =>
        rw [e2] at q2
        exact False.elim q2
      | some d2 =>
        rw [e2] at q2
        obtain ⟨p, dx, vs, rfl, hH, hF⟩ := inst_ok b1 i1 e1
        obtain ⟨w, h1, h2⟩ := isF_look hF e2
        exact ⟨p, cl c0, dx, vs, w, rfl, hH, hc, hn, h1, q2 w F1 H1 ca1 b1 (Ex.refl F1) (Pre.refl ca1) h2⟩
/-- o.f = value -/
def putFD (f : Str) (d : D) : List (Str × D) → List (Str × D)
  | [] => [(f, d)]
  | (k, x) :: fs => if k = f then (k, d) :: fs else (k, x) :: putFD f d fs
theorem isF_put {F : Hp} {ca : List Addr} {f : Str} {v : V} {d : D} (i : Is X.K cl F ca v d) : ∀ {vs : List (Str × V)} {fs : List (Str × D)}, IsF X.K cl F ca vs fs → IsF X.K cl F ca (putF f v vs) (putFD f d fs)
  | _, _, .nil => .cons i .nil
  | _, (k, x) :: fs, .cons (vs := vs) (v := w) j t => by
    show IsF X.K cl F ca (if k = f then (k, v) :: vs else (k, w) :: putF f v vs) (if k = f then (k, d) :: fs else (k, x) :: putFD f d fs)
    split
    · exact .cons i t
    · exact .cons j (isF_put i t)
def setfK (c0 : Nat) (f : Str) (s : S) (d : D) : D → O
  | .rf j => match s.ce[j]? with
    | some (.ins c fs) => if c = c0 ∧ fs.length < 900 then .nx ⟨s.sl, s.ce.set j (.ins c (putFD f d fs)), s.n0⟩ else .no
    | _ => .no
  | _ => .no
def sSetF (c0 : Nat) (f : Str) (fo fv : DE) : DS := fun s => bindO (fv s) fun d s1 => bindO (fo s1) fun o s2 => setfK c0 f s2 d o
theorem s_fld {c0 : Nat} {st : Stmt} {fo fv : DE} {f : Str} (hc : Cls X.K (cl c0)) (hn : NoAttr X.K (cl c0) f) (hst : PS X st (sFld X.K (rd X.K cl e W fo) (rd X.K cl e W fv) f)) : PSd X cl e W st (sSetF c0 f fo fv) :=
  ps_w hst fun Dn σ H ⟨F, ca, s, b, q⟩ => by
    refine useS_rd b q fun v d s1 F1 H1 ca1 b1 i1 x1 p1 q1 => ?_
    refine useS_rd b1 q1 fun w o s2 F2 H2 ca2 b2 i2 x2 p2 q2 => ?_
    cases i2 with
    | @rf a j hj =>
      obtain ⟨c, h1, h2⟩ := b2.cel.at_ hj
      have q3 : rdSK X.K cl e W F2 ca2 Dn (match s2.ce[j]? with
        | some (Cell.ins c fs) => if c = c0 ∧ fs.length < 900 then .nx ⟨s2.sl, s2.ce.set j (.ins c (putFD f d fs)), s2.n0⟩ else .no
        | _ => .no) := q2
      rw [h1] at q3
      cases c with
      | ins c fs =>
        have q4 : rdSK X.K cl e W F2 ca2 Dn (if c = c0 ∧ fs.length < 900 then .nx ⟨s2.sl, s2.ce.set j (.ins c (putFD f d fs)), s2.n0⟩ else .no) := q3
        by_cases hz : c = c0 ∧ fs.length < 900
        · rw [if_pos hz] at q4
          obtain ⟨rfl, hz⟩ := hz
          obtain ⟨hF, dx, vs, hH, hi⟩ := h2
          refine ⟨a, cl c, dx, vs, rfl, hH, hc, hn, by rw [isF_len hi]; omega, ?_⟩
          exact q4 σ F2 _ ca2 (b2.write hj hF ⟨hF, dx, _, upd_same, isF_put (i1.mono x2 p2) hi⟩) (Ex.refl F2) (Pre.refl ca2)
        · rw [if_neg hz] at q4
          exact False.elim q4
      | _ => exact False.elim q3
    | _ => exact False.elim q2
/-- xs[i] = value -/
def setiK (s : S) (d : D) : D → D → O
  | .rf j, .int i => match cellL s.ce[j]? with
    | some xs => match ixN xs.length i with
      | some k => .nx ⟨s.sl, s.ce.set j (.lst (xs.set k d)), s.n0⟩
      | none => .no
    | none => .no
  | _, _ => .no
def sSetI (fo fi fv : DE) : DS := fun s => bindO (fv s) fun d s1 => bindO (fo s1) fun o s2 => bindO (fi s2) fun i s3 => setiK s3 d o i
theorem s_seti {st : Stmt} {fo fi fv : DE} (hst : PS X st (tAsg (rd X.K cl e W fv) (gSub (rd X.K cl e W fo) (rd X.K cl e W fi) rSetL))) : PSd X cl e W st (sSetI fo fi fv) :=
  ps_w hst fun Dn σ H ⟨F, ca, s, b, q⟩ => by
    refine useS_rd b q fun v d s1 F1 H1 ca1 b1 i1 x1 p1 q1 => ?_
    refine useS_rd b1 q1 fun w o s2 F2 H2 ca2 b2 i2 x2 p2 q2 => ?_
    refine useS_rd b2 q2 fun u ix s3 F3 H3 ca3 b3 i3 x3 p3 q3 => ?_
    cases o with
    | rf j =>
      cases i3 with
      | int k =>
        have q4 : rdSK X.K cl e W F3 ca3 Dn (match cellL s3.ce[j]? with
          | some xs => match ixN xs.length k with
            | some k => .nx ⟨s3.sl, s3.ce.set j (.lst (xs.set k d)), s3.n0⟩
            | none => .no
          | none => .no) := q3
        cases e1 : cellL s3.ce[j]? with
        | none =>
          rw [e1] at q4
          exact False.elim q4
        | some xs =>
          rw [e1] at q4
          have q5 : rdSK X.K cl e W F3 ca3 Dn (match ixN xs.length k with
            | some k => .nx ⟨s3.sl, s3.ce.set j (.lst (xs.set k d)), s3.n0⟩
            | none => .no) := q4
          obtain ⟨a, ws, rfl, ha, hH, hi, hF⟩ := cell_ok b3 (i2.mono x3 p3) (cellL_eq e1)
          cases e2 : ixN xs.length k with
          | none =>
            rw [e2] at q5
            exact False.elim q5
          | some n =>
            rw [e2] at q5
            refine ⟨a, ws, k, n, rfl, rfl, hH, by rw [hi.length]; exact e2, ?_⟩
            exact q5 σ F3 _ ca3 (b3.write ha hF ⟨hF, _, upd_same, hi.set (i1.mono (x2.trans x3) (p2.trans p3)) n⟩) (Ex.refl F3) (Pre.refl ca3)
      | _ => exact False.elim q3
    | _ => exact False.elim q3

/-! ### methods, properties, operators of the text's own classes -/
def ownK (c0 n : Nat) (m : Fn) (s : S) (ds : List D) : Option (List (Str × D)) → R
  | some _ => if ds.length = n then frK s (m ds s.ce) else .no
  | none => .no
/-- the first of ds is an instance of class c0 -/
def dOwn1 (c0 n : Nat) (m : Fn) (f : DE) : DE := fun s => bindR (f s) fun d s1 => ownK c0 n m s1 [d] (instF c0 s1.ce d)
def dOwn2 (c0 n : Nat) (m : Fn) (f g : DE) : DE := fun s => bindR (f s) fun d s1 => bindR (g s1) fun w s2 => ownK c0 n m s2 [d, w] (instF c0 s2.ce d)
theorem own_sp {c0 n : Nat} {m : Fn} {F H : Hp} {ca : List Addr} {σ : L2.St} {s : S} {Q : VK} {vs : List V} {ds : List D} {o : Option (List (Str × D))} (b : Bx X cl e F H ca σ s) (i : IsL X.K cl F ca vs ds) (q : rdK X.K cl e W σ F ca Q (ownK c0 n m s ds o)) :
    spD X.K cl n m vs H Q (WE W σ) ∧ ∃ fs, o = some fs := by
  cases o with
  | none => exact False.elim q
  | some fs =>
    have q' : rdK X.K cl e W σ F ca Q (if ds.length = n then frK s (m ds s.ce) else .no) := q
    by_cases hn : ds.length = n
    · rw [if_pos hn] at q'
      exact ⟨sp_of b (i.length.trans hn) i q', fs, rfl⟩
    · rw [if_neg hn] at q'
      exact False.elim q'
/-- what a def's run leaves is never NotImplemented -/
theorem back_ok {pins : List (Addr × Obj)} {σ : L2.St} {Q : VK} {u : Value} {s : Shared} (h : EP X pins σ Q u s) : PySem.W.CmpBack (fun u s => EP X pins σ Q u s) u s := by
  obtain ⟨v, H', I', r, q⟩ := h
  cases v with
  | non =>
    cases r
    exact ⟨.non, H', I', rfl, q⟩
  | bl z =>
    cases r
    exact ⟨.bl z, H', I', rfl, q⟩
  | int z =>
    obtain ⟨t, rfl⟩ := r
    exact ⟨.int z, H', I', ⟨t, rfl⟩, q⟩
  | str z =>
    obtain ⟨t, rfl⟩ := r
    exact ⟨.str z, H', I', ⟨t, rfl⟩, q⟩
  | byt z =>
    obtain ⟨t, rfl⟩ := r
    exact ⟨.byt z, H', I', ⟨t, rfl⟩, q⟩
  | flt z =>
    obtain ⟨t, rfl⟩ := r
    exact ⟨.flt z, H', I', ⟨t, rfl⟩, q⟩
  | ref z =>
    cases r
    exact ⟨.ref z, H', I', rfl, q⟩
  | ty z =>
    cases r
    exact ⟨.ty z, H', I', rfl, q⟩
variable {a b : Expr} {f g : DE} {c0 n k : Nat} {m : Fn} {fa : Addr} {fd : FuncData} {ps : List Str} {pos : Pos}
/-- a op b, both instances of the class -/
theorem d_binop {op : Operator} (Fo : FnOk X.prog X.w X.K X.mg X.base (L2.CX X.prog X.w) k fa fd ps (spD X.K cl n m)) (hr : Room k X.A) (hb : Binds X.K fd ps []) (tk : Takes X W)
    (hc : PySem.W.selfFirst X.K (cl c0) = true) (hs : PySem.W.findIn X.K (.ref (cl c0)) (PySem.dunder op.info.2) = some (some (.ref fa))) (hf : PySem.W.isFn X.K (.ref fa) = true)
    (ha : PEd X cl e W a f) (hbb : PEd X cl e W b g) : PEd X cl e W (.BinOp a op b pos) (fun s => bindR (f s) fun d s1 => bindR (g s1) fun w s2 => match instF c0 s2.ce w with
      | some _ => ownK c0 n m s2 [d, w] (instF c0 s2.ce d)
      | none => .no) := by
  refine ⟨fun pins s σ H Q I h => ?_⟩
  obtain ⟨F, ca, s0, b0, q⟩ := h
  refine wpAny_BinOp (thn (ha.run pins s σ H _ I (use_rd b0 q fun v d s1 F1 H1 ca1 b1 i1 x1 p1 q1 => (⟨d, s1, F1, ca1, b1, i1, q1⟩ : ∃ d s1 F1 ca1, Bx X cl e F1 H1 ca1 σ s1 ∧ Is X.K cl F1 ca1 v d ∧ rdK X.K cl e W σ F1 ca1 Q (bindR (g s1) fun w s2 => match instF c0 s2.ce w with
      | some _ => ownK c0 n m s2 [d, w] (instF c0 s2.ce d)
      | none => .no)))) fun u s1 ⟨v, H1, I1, r1, d, t1, F1, ca1, b1, i1, q1⟩ => ?_)
  refine thn (hbb.run pins s1 σ H1 _ I1 (use_rd b1 q1 fun v2 w t2 F2 H2 ca2 b2 i2 x2 p2 q2 => (⟨w, t2, F2, ca2, b2, i1.mono x2 p2, i2, q2⟩ : ∃ w t2 F2 ca2, Bx X cl e F2 H2 ca2 σ t2 ∧ Is X.K cl F2 ca2 v d ∧ Is X.K cl F2 ca2 v2 w ∧ rdK X.K cl e W σ F2 ca2 Q (match instF c0 t2.ce w with
      | some _ => ownK c0 n m t2 [d, w] (instF c0 t2.ce d)
      | none => .no)))) fun u2 s2 ⟨v2, H2, I2, r2, w, t2, F2, ca2, b2, j1, j2, q2⟩ => ?_
  cases e1 : instF c0 t2.ce w with
  | none =>
    rw [e1] at q2
    exact False.elim q2
  | some fw =>
    rw [e1] at q2
    obtain ⟨hsp, fs, e2⟩ := own_sp (o := instF c0 t2.ce d) b2 (.cons j1 (.one j2)) q2
    obtain ⟨p, dx, vs, rfl, hH, hi⟩ := inst_ok b2 j1 e2
    obtain ⟨p2, dx2, vs2, rfl, hH2, hi2⟩ := inst_ok b2 j2 e1
    obtain rfl : u = Value.ref p := r1
    obtain rfl : u2 = Value.ref p2 := r2
    obtain ⟨mA, J, _⟩ := ins_get I2.hok hH
    obtain ⟨mB, J', _⟩ := ins_get I2.hok hH2
    obtain ⟨od, J, _⟩ := J.look
    obtain ⟨od', J', _⟩ := J'.look
    obtain ⟨mm, hF⟩ := I2.fr
    refine PySem.W.binop_K hF I2.ok.mod.kin J J'.type hc hs hf ?_
    exact thn (run_fnS (E := WE W) (vs := [.ref p, .ref p2]) Fo hr hb (passAt tk σ) I2 (.cons rfl (.cons rfl .nil)) hsp) fun u3 s3 z => back_ok z
/-- ~a -/
theorem d_inv (Fo : FnOk X.prog X.w X.K X.mg X.base (L2.CX X.prog X.w) k fa fd ps (spD X.K cl n m)) (hr : Room k X.A) (hb : Binds X.K fd ps []) (tk : Takes X W)
    (hs : PySem.W.findIn X.K (.ref (cl c0)) "__invert__" = some (some (.ref fa))) (hf : PySem.W.isFn X.K (.ref fa) = true)
    (ha : PEd X cl e W a f) : PEd X cl e W (.UnaryOp .Invert a pos) (dOwn1 c0 n m f) := by
  refine ⟨fun pins s σ H Q I h => ?_⟩
  obtain ⟨F, ca, s0, b0, q⟩ := h
  refine UnaryOp_ (thn (ha.run pins s σ H _ I (use_rd b0 q fun v d s1 F1 H1 ca1 b1 i1 x1 p1 q1 => (⟨d, s1, F1, ca1, b1, i1, q1⟩ : ∃ d s1 F1 ca1, Bx X cl e F1 H1 ca1 σ s1 ∧ Is X.K cl F1 ca1 v d ∧ rdK X.K cl e W σ F1 ca1 Q (ownK c0 n m s1 [d] (instF c0 s1.ce d))))) fun u s1 ⟨v, H1, I1, r1, d, t1, F1, ca1, b1, i1, q1⟩ => ?_)
  obtain ⟨hsp, fs, e2⟩ := own_sp (o := instF c0 t1.ce d) b1 (.one i1) q1
  obtain ⟨p, dx, vs, rfl, hH, hi⟩ := inst_ok b1 i1 e2
  obtain rfl : u = Value.ref p := r1
  obtain ⟨mA, J, _⟩ := ins_get I1.hok hH
  obtain ⟨od, J, _⟩ := J.look
  obtain ⟨mm, hF⟩ := I1.fr
  exact PySem.W.ksp_inv hF I1.ok.mod.kin J hs hf (run_fnS (E := WE W) (vs := [.ref p]) Fo hr hb (passAt tk σ) I1 (.cons rfl .nil) hsp)
end
end Dv
set_option maxRecDepth 100000
set_option maxHeartbeats 4000000
/-! calls of an instance's own methods, properties, of the instance, of its class -/
namespace Dv
open PySem PySem.Spec PyProof.Rows L2

section
variable {K : PySem.W.Frag} {cl : Cl} {e : Ent} {F F' H H' : Hp} {ca : List Addr} {σ : L2.St} {s : S} {p : Addr} {c : Cell}
/-- the youngest cell is a cell no more -/
theorem B.uncell (b0 : B K cl e F H ca σ s) (b : B K cl e F' H' (ca ++ [p]) σ ⟨s.sl, s.ce ++ [c], s.n0⟩) : B K cl e F' H' ca σ s where
  fh := b.fh
  exF := b.exF
  keep := b.keep
  free := b.free
  pre := b0.pre
  newc := fun a ha => b.newc a (List.mem_append_left _ ha)
  cel := by
    refine ⟨b0.cel.1, b0.cel.2.1, fun j a x h1 h2 => ?_⟩
    have hj : j < s.ce.length := (List.getElem?_eq_some_iff.mp h2).1
    have z := b.cel.2.2 j a x (Pre.app ca [p] j a h1) (by
      show (s.ce ++ [c])[j]? = some x
      rw [List.getElem?_append_left hj]
      exact h2)
    exact z.down (Pre.app ca [p]) ((b0.cel.2.2 j a x h1 h2).low)
  len := b.len
  slo := fun i d q => by
    obtain ⟨v, h1, h2⟩ := b.slo i d q
    obtain ⟨_, _, h3⟩ := b0.slo i d q
    exact ⟨v, h1, h2.down (Pre.app ca [p]) h3.low⟩
  hcl := b.hcl
  n0 := b0.n0
end

/-- errors don't come -/
def noEr : R → R
  | .er _ _ => .no
  | r => r
def dProp (c0 n : Nat) (m : Fn) (f : DE) : DE := fun s => bindR (f s) fun d s1 => noEr (ownK c0 n m s1 [d] (instF c0 s1.ce d))
/-- o.m(..), o an instance of class c0 -/
def methK (c0 n : Nat) (nm : Str) (m : Fn) (d : D) (g : DA) (s : S) : Option (List (Str × D)) → R
  | some fs => if (fs.lookup nm).isNone = true then bindAR (g s) fun ds s2 => if ds.length + 1 = n then frK s2 (m (d :: ds) s2.ce) else .no else .no
  | none => .no
def dMeth (c0 n : Nat) (nm : Str) (m : Fn) (f : DE) (g : DA) : DE := fun s => bindR (f s) fun d s1 => methK c0 n nm m d g s1 (instF c0 s1.ce d)
/-- o(..), o an instance of class c0 -/
def dCallO (c0 n : Nat) (m : Fn) (f : DE) (g : DA) : DE := fun s => bindR (f s) fun d s1 => if (instF c0 s1.ce d).isSome = true then bindAR (g s1) fun ds s2 => ownK c0 n m s2 (d :: ds) (instF c0 s2.ce d) else .no
/-- what __init__ leaves: the attributes, or an error -/
inductive FI where
  | ok (fs : List (Str × D))
  | er (x : Xc)
  | no
abbrev MkFn := List D → List Cell → FI
/-- __init__ by its function m does what mk says of the other arguments -/
def MkOk (c0 : Nat) (m : Fn) (mk : MkFn) : Prop := ∀ ds ce, match mk ds ce with
  | .ok fs => m (.rf ce.length :: ds) (ce ++ [.ins c0 []]) = .ok .non (ce ++ [.ins c0 fs]) ∧ lowF ce.length fs = true
  | .er x => x.fs = [] ∧ ∃ c, m (.rf ce.length :: ds) (ce ++ [.ins c0 []]) = .er x (ce ++ [c])
  | .no => True
def fiK (c0 : Nat) (s : S) : FI → R
  | .ok fs => .ni c0 fs s
  | .er x => .er x s
  | .no => .no
def dMake (c0 n : Nat) (mk : MkFn) (g : DA) : DE := fun s => bindAR (g s) fun ds s1 => if ds.length + 1 = n then fiK c0 s1 (mk ds s1.ce) else .no
section
variable {X : Cx} {cl : Cl} {e : Ent} {W : WX}
theorem noEr_w {F : Hp} {ca : List Addr} {σ : L2.St} {Q : VK} {r : R} (h : rdK X.K cl e W σ F ca Q (noEr r)) : rdK X.K cl e W0 σ F ca Q r := by
  cases r with
  | er x s => exact False.elim h
  | _ => exact h
variable {a o : Expr} {es : List Expr} {f : DE} {ga : DA} {c0 n k : Nat} {m : Fn} {fa pa : Addr} {fd : FuncData} {ps : List Str} {pos apos p : Pos} {nm : Str}
/-- e.f, a property of the text's class -/
theorem d_prop (Fo : FnOk X.prog X.w X.K X.mg X.base (L2.CX X.prog X.w) k fa fd ps (spD X.K cl n m)) (hr : Room (k + 1) X.A) (hb : Binds X.K fd ps []) (hc : Cls X.K (cl c0)) (hp : PropOf X.K (cl c0) nm pa fa)
    (ha : PEd X cl e W a f) (hab : attributeBase a nm X.env (eval a X.env) = eval a X.env := by rfl) : PEd X cl e W (.Attribute a nm pos) (dProp c0 n m f) :=
  pe_w (pe_prop (sp := spD X.K cl n m) (dvs := []) (ds := []) (E := fun _ _ _ => False) ha hc hp Fo hr hb .nil (fun pins σ H s er s' I c => passAt (X := X.nox) takesW0 σ pins H s er s' I c) hab) fun σ H Q ⟨F, ca, s, b, q⟩ => by
    refine use_rd b q fun v d s1 F1 H1 ca1 b1 i1 x1 p1 q1 => ?_
    obtain ⟨hsp, fs, e2⟩ := own_sp b1 (.one i1) (noEr_w q1)
    obtain ⟨q, dx, vs, rfl, hH, hi⟩ := inst_ok b1 i1 e2
    exact ⟨q, dx, vs, rfl, hH, hsp⟩
/-- o.m(e, ..), o an instance of the text's class -/
theorem d_meth {pl : Sem Bool} (Fo : FnOk X.prog X.w X.K X.mg X.base (L2.CX X.prog X.w) k fa fd ps (spD X.K cl n m)) (hr : Room k X.A) (hb : Binds X.K fd ps []) (tk : Takes X W) (hc : Cls X.K (cl c0)) (hm : Meth X.K (cl c0) nm fa)
    (ho : PEd X cl e W o f) (ha : PAd X cl e W (a :: es) ga) (hst : starEach (a :: es) X.env = (false, eval a X.env) :: starEach es X.env := by rfl) (hpl : (backTo pos (starEach es X.env)).any (·.1) = false := by rfl)
    (ht : eval (.Call (.Attribute o nm apos) (a :: es) [] pos) X.env = (eval o X.env >>= fun ov => standAt apos.atName >>= fun _ => holding [ov] (getMethod ov nm pl) >>= fun z => callWith pos z.1 z.2 (backTo pos (starEach (a :: es) X.env)) (backToKw pos (keywordEach [] X.env))) := by rfl) :
    PEd X cl e W (.Call (.Attribute o nm apos) (a :: es) [] pos) (dMeth c0 n nm m f ga) := by
  refine ⟨fun pins s σ H Q I h => ?_⟩
  obtain ⟨F, ca, s0, b0, q⟩ := h
  refine PySem.W.methodCall_KW (pl := pl) (thn (ho.run pins s σ H _ I (use_rd b0 q fun v d s1 F1 H1 ca1 b1 i1 x1 p1 q1 => (⟨d, s1, F1, ca1, b1, i1, q1⟩ : ∃ d s1 F1 ca1, Bx X cl e F1 H1 ca1 σ s1 ∧ Is X.K cl F1 ca1 v d ∧ rdK X.K cl e W σ F1 ca1 Q (methK c0 n nm m d ga s1 (instF c0 s1.ce d))))) fun u s1 ⟨v, H1, I1, r1, d, t1, F1, ca1, b1, i1, q1⟩ => ?_) ht
  cases e1 : instF c0 t1.ce d with
  | none =>
    rw [e1] at q1
    exact False.elim q1
  | some fs =>
    rw [e1] at q1
    have q2 : rdK X.K cl e W σ F1 ca1 Q (if (fs.lookup nm).isNone = true then bindAR (ga t1) fun ds s2 => if ds.length + 1 = n then frK s2 (m (d :: ds) s2.ce) else .no else .no) := q1
    by_cases hz : (fs.lookup nm).isNone = true
    · rw [if_pos hz] at q2
      obtain ⟨q, dx, vs, rfl, hH, hi⟩ := inst_ok b1 i1 e1
      obtain rfl : u = Value.ref q := r1
      refine getmeth_ok I1 hH hc hm (isF_none hi (Option.isNone_iff_eq_none.mp hz)) ?_
      refine PySem.W.callWith_K (first := [.ref q]) (h₀ := X.base) I.ok.mod.kin hm.kp (thn (ha.run pos pins s1 σ H1 _ I1 (use_rdA b1 q2 fun vs ds s2 F2 H2 ca2 b2 i2 x2 p2 q3 => (⟨ds, s2, F2, ca2, b2, i1.mono x2 p2, i2, q3⟩ : ∃ ds s2 F2 ca2, Bx X cl e F2 H2 ca2 σ s2 ∧ Is X.K cl F2 ca2 (.ref q) d ∧ IsL X.K cl F2 ca2 vs ds ∧ rdK X.K cl e W σ F2 ca2 Q (if ds.length + 1 = n then frK s2 (m (d :: ds) s2.ce) else .no)))) fun us s2 ⟨vs, H2, I2, r2, ds, t2, F2, ca2, b2, j1, j2, q3⟩ => ⟨I2.kIn, ?_⟩) hst hpl
      by_cases hn : ds.length + 1 = n
      · rw [if_pos hn] at q3
        exact run_fnS (E := WE W) (us := .ref q :: us) (vs := .ref q :: vs) Fo hr hb (passAt tk σ) I2 (.cons rfl r2) (sp_of b2 (by rw [List.length_cons, j2.length]; exact hn) (.cons j1 j2) q3)
      · rw [if_neg hn] at q3
        exact False.elim q3
    · rw [if_neg hz] at q2
      exact False.elim q2
/-- o.m() -/
theorem d_meth0 {pl : Sem Bool} (Fo : FnOk X.prog X.w X.K X.mg X.base (L2.CX X.prog X.w) k fa fd ps (spD X.K cl n m)) (hr : Room k X.A) (hb : Binds X.K fd ps []) (tk : Takes X W) (hc : Cls X.K (cl c0)) (hm : Meth X.K (cl c0) nm fa)
    (ho : PEd X cl e W o f)
    (ht : eval (.Call (.Attribute o nm apos) [] [] pos) X.env = (eval o X.env >>= fun ov => standAt apos.atName >>= fun _ => holding [ov] (getMethod ov nm pl) >>= fun z => callWith pos z.1 z.2 (backTo pos (starEach [] X.env)) (backToKw pos (keywordEach [] X.env))) := by rfl) :
    PEd X cl e W (.Call (.Attribute o nm apos) [] [] pos) (dMeth c0 n nm m f aNil) := by
  refine ⟨fun pins s σ H Q I h => ?_⟩
  obtain ⟨F, ca, s0, b0, q⟩ := h
  refine PySem.W.methodCall_KW (pl := pl) (thn (ho.run pins s σ H _ I (use_rd b0 q fun v d s1 F1 H1 ca1 b1 i1 x1 p1 q1 => (⟨d, s1, F1, ca1, b1, i1, q1⟩ : ∃ d s1 F1 ca1, Bx X cl e F1 H1 ca1 σ s1 ∧ Is X.K cl F1 ca1 v d ∧ rdK X.K cl e W σ F1 ca1 Q (methK c0 n nm m d aNil s1 (instF c0 s1.ce d))))) fun u s1 ⟨v, H1, I1, r1, d, t1, F1, ca1, b1, i1, q1⟩ => ?_) ht
  cases e1 : instF c0 t1.ce d with
  | none =>
    rw [e1] at q1
    exact False.elim q1
  | some fs =>
    rw [e1] at q1
    have q2 : rdK X.K cl e W σ F1 ca1 Q (if (fs.lookup nm).isNone = true then (if 0 + 1 = n then frK t1 (m [d] t1.ce) else .no) else .no) := q1
    by_cases hz : (fs.lookup nm).isNone = true
    · rw [if_pos hz] at q2
      obtain ⟨q, dx, vs, rfl, hH, hi⟩ := inst_ok b1 i1 e1
      obtain rfl : u = Value.ref q := r1
      refine getmeth_ok I1 hH hc hm (isF_none hi (Option.isNone_iff_eq_none.mp hz)) ?_
      by_cases hn : 0 + 1 = n
      · rw [if_pos hn] at q2
        exact PySem.W.callWith_K0 (first := [.ref q]) I1.kIn hm.kp (run_fnS (E := WE W) (us := [.ref q]) (vs := [.ref q]) Fo hr hb (passAt tk σ) I1 (.cons rfl .nil) (sp_of b1 hn (.one i1) q2))
      · rw [if_neg hn] at q2
        exact False.elim q2
    · rw [if_neg hz] at q2
      exact False.elim q2
/-- a def's run by its promise, as code -/
theorem code_fnS {pins : List (Addr × Obj)} {σ : L2.St} {H : Hp} {s : Shared} {Q : VK} {us : List Value} {vs : List V} {sp : Sp} {E : L2.St → XK} (Fo : FnOk X.prog X.w X.K X.mg X.base (L2.CX X.prog X.w) k fa fd ps sp) (hr : Room k X.A) (hb : Binds X.K fd ps []) (hx : PassesAt (L2.CX X.prog X.w) X σ (E σ))
    (I : Inv X pins σ H s) (r : Vals vs us) (h : sp vs H Q (E σ)) : codeAny (model X.prog X.w) X.A (.call (.ref fa) ⟨us, []⟩) (fun r s' => match r with | .ok (.ret v) => EP X pins σ Q v s' | .ok _ => False | .error e => X.xe e s') s := by
  have hl : (us ++ []).length = ps.length := (congrArg List.length (List.append_nil us)).trans (r.length.symm.trans (Fo.len _ _ _ _ h))
  have b := hb s us I.kIn hl
  rw [List.append_nil] at b
  refine codeAny_mono (Fo.run X.A X.stack s H ⟨us, []⟩ us vs Q (E σ) hr I.env0 b r h) fun r s' hq => ?_
  cases r with
  | ok fl => cases fl with
    | ret u => exact I.after hq
    | _ => exact False.elim hq
  | error er => exact hx pins H s er s' I hq
/-- o(e, ..) -/
theorem d_callo (Fo : FnOk X.prog X.w X.K X.mg X.base (L2.CX X.prog X.w) k fa fd ps (spD X.K cl n m)) (hr : Room k X.A) (hb : Binds X.K fd ps []) (tk : Takes X W) (c : StX.CallO X.K (cl c0) fa)
    (ho : PEd X cl e W o f) (ha : PAd X cl e W (a :: es) ga)
    (ht : eval (.Call o (a :: es) [] pos) X.env = (eval o X.env >>= fun z => callWith pos z [] (backTo pos (starEach (a :: es) X.env)) (backToKw pos (keywordEach [] X.env))) := by rfl)
    (hst : starEach (a :: es) X.env = (false, eval a X.env) :: starEach es X.env := by rfl) (hpl : (backTo pos (starEach es X.env)).any (·.1) = false := by rfl) :
    PEd X cl e W (.Call o (a :: es) [] pos) (dCallO c0 n m f ga) := by
  refine ⟨fun pins s σ H Q I h => ?_⟩
  obtain ⟨F, ca, s0, b0, q⟩ := h
  refine Call_ (thn (ho.run pins s σ H _ I (use_rd b0 q fun v d s1 F1 H1 ca1 b1 i1 x1 p1 q1 => (⟨d, s1, F1, ca1, b1, i1, q1⟩ : ∃ d s1 F1 ca1, Bx X cl e F1 H1 ca1 σ s1 ∧ Is X.K cl F1 ca1 v d ∧ rdK X.K cl e W σ F1 ca1 Q (if (instF c0 s1.ce d).isSome = true then bindAR (ga s1) fun ds s2 => ownK c0 n m s2 (d :: ds) (instF c0 s2.ce d) else .no)))) fun u s1 ⟨v, H1, I1, r1, d, t1, F1, ca1, b1, i1, q1⟩ => ?_) ht
  by_cases hz : (instF c0 t1.ce d).isSome = true
  · rw [if_pos hz] at q1
    obtain ⟨fs, e1⟩ := Option.isSome_iff_exists.mp hz
    obtain ⟨q, dx, vs, rfl, hH, hi⟩ := inst_ok b1 i1 e1
    obtain rfl : u = Value.ref q := r1
    refine StX.callO_with (thn (ha.run pos pins s1 σ H1 _ I1 (use_rdA b1 q1 fun vs ds s2 F2 H2 ca2 b2 i2 x2 p2 q3 => (⟨ds, s2, F2, ca2, b2, i1.mono x2 p2, i2, q3⟩ : ∃ ds s2 F2 ca2, Bx X cl e F2 H2 ca2 σ s2 ∧ Is X.K cl F2 ca2 (.ref q) d ∧ IsL X.K cl F2 ca2 vs ds ∧ rdK X.K cl e W σ F2 ca2 Q (ownK c0 n m s2 (d :: ds) (instF c0 s2.ce d))))) fun us s2 ⟨vs, H2, I2, r2, ds, t2, F2, ca2, b2, j1, j2, q3⟩ => ?_) hst hpl
    obtain ⟨hsp, fs2, e2⟩ := own_sp b2 (.cons j1 j2) q3
    obtain ⟨q', dx2, vs2, eq, hH2, hi2⟩ := inst_ok b2 j1 e2
    cases eq
    obtain ⟨ox, od, J, hd⟩ := StX.insC_at (C := cl c0) I2 (.inr ⟨dx2, vs2, hH2⟩)
    refine ⟨⟨cl c0, ox, od, J, hd⟩, ?_⟩
    refine wpAny_call (PySem.W.kco_code I2.kIn J hd c.at_ c.fn c.fi ?_)
    exact code_fnS (E := WE W) (us := .ref q :: us) (vs := .ref q :: vs) Fo hr hb (passAt tk σ) I2 (.cons rfl r2) hsp
  · rw [if_neg hz] at q1
    exact False.elim q1
end
end Dv
set_option maxRecDepth 100000
set_option maxHeartbeats 4000000
/-! new instances; ==; isinstance -/
namespace Dv
open PySem PySem.Spec PyProof.Rows L2
section
variable {X : Cx} {cl : Cl} {e : Ent} {W : WX}
variable {a b : Expr} {es : List Expr} {f g : DE} {ga : DA} {c0 n k : Nat} {m : Fn} {mk : MkFn} {fa : Addr} {fd : FuncData} {ps : List Str} {pos p : Pos} {x : Str}
theorem make_sp {F H : Hp} {ca : List Addr} {σ : L2.St} {s : S} {Q : VK} {vs : List V} {ds : List D} {y dx : Addr} (mo : MkOk c0 m mk) (b : Bx X cl e F H ca σ s) (i : IsL X.K cl F ca vs ds) (hn : ds.length + 1 = n) (q : rdK X.K cl e W σ F ca Q (fiK c0 s (mk ds s.ce)))
    (hy : H y = none) (hd : H dx = none) (ne : dx ≠ y) :
    spD X.K cl n m (.ref y :: vs) (upd (upd H dx (.own y)) y (.ins (cl c0) dx [])) (fun v H2 => v = .non ∧ Q (.ref y) H2) (WE W σ) := by
  have hy' : upd H dx (.own y) y = none := by
    rw [upd_ne (Ne.symm ne)]
    exact hy
  have b1 : Bx X cl e F (upd (upd H dx (.own y)) y (.ins (cl c0) dx [])) (ca ++ [y]) σ ⟨s.sl, s.ce ++ [.ins c0 []], s.n0⟩ :=
    ((b.laid hd).laid hy').cell (c := .ins c0 []) ⟨b.notF hy, dx, [], upd_same, .nil⟩ (b.notca hy) (b.notH0 hy)
  refine ⟨by rw [List.length_cons, i.length]; exact hn, F, ca ++ [y], s.ce ++ [.ins c0 []], .rf s.ce.length :: ds, b1.fh, b1.cel, .cons (.rf (pre_last b.cel.1)) (i.mono (Ex.refl F) (Pre.app ca [y])), ?_⟩
  have mo' := mo ds s.ce
  cases e1 : mk ds s.ce with
  | no =>
    rw [e1] at q
    exact False.elim q
  | ok fs =>
    rw [e1] at q mo'
    obtain ⟨mo1, hlow⟩ := mo'
    rw [mo1]
    intro v F' H' af iv
    cases iv
    refine ⟨rfl, ?_⟩
    have b2 := b1.after af
    obtain ⟨hF, dx', ws, hH, hi⟩ := b2.cel.2.2 s.ce.length y (.ins c0 fs) (pre_last b.cel.1) (by simp)
    exact q (.ref y) F' H' ca (b.uncell b2) af.ex (Pre.refl ca) ⟨y, dx', ws, rfl, hH, hi.down (Pre.app ca [y]) (by rw [b.cel.1]; exact hlow), hF, b.notca hy, b.notH0 hy⟩
  | er xc =>
    rw [e1] at q mo'
    obtain ⟨hfs, c, mo1⟩ := mo'
    rw [mo1]
    intro cls dd F' H' af xo
    have b2 := b1.after af
    refine q cls dd F' H' ca (b.uncell b2) ⟨xo.1, ?_⟩
    have z := xo.2
    rw [hfs] at z ⊢
    exact z
/-- C(e, ..), C a class of the text -/
theorem d_make (M : Mk X.K (cl c0) fa) (Fo : FnOk X.prog X.w X.K X.mg X.base (L2.CX X.prog X.w) k fa fd ps (spD X.K cl n m)) (mo : MkOk c0 m mk) (hr : Room (k + 1) X.A) (hg : Gl X x) (hm : X.mg x = some (.ref (cl c0))) (hb : Binds X.K fd ps []) (tk : Takes X W)
    (ha : PAd X cl e W (a :: es) ga) (hdb : (x == ("__debug__" : Str)) = false := by decide) (hst : starEach (a :: es) X.env = (false, eval a X.env) :: starEach es X.env := by rfl) (hpl : (backTo pos (starEach es X.env)).any (·.1) = false := by rfl) :
    PEd X cl e W (.Call (.Name x p) (a :: es) [] pos) (dMake c0 n mk ga) := by
  refine ⟨fun pins s σ H Q I h => ?_⟩
  obtain ⟨F, ca, s0, b0, q⟩ := h
  refine wpAny_Call_Name_kw (ld_glob I hg hm ?_ hdb)
  refine PySem.W.callWith_K (h₀ := X.base) I.ok.mod.kin M.kp (thn (ha.run pos pins s σ H _ I (use_rdA b0 q fun vs ds s1 F1 H1 ca1 b1 i1 x1 p1 q1 => (⟨ds, s1, F1, ca1, b1, i1, q1⟩ : ∃ ds s1 F1 ca1, Bx X cl e F1 H1 ca1 σ s1 ∧ IsL X.K cl F1 ca1 vs ds ∧ rdK X.K cl e W σ F1 ca1 Q (if ds.length + 1 = n then fiK c0 s1 (mk ds s1.ce) else .no)))) fun us s1 ⟨vs, H1, I1, r, ds, t1, F1, ca1, b1, i1, q1⟩ => ⟨I1.kIn, ?_⟩) hst hpl
  by_cases hn : ds.length + 1 = n
  · rw [if_pos hn] at q1
    have fy := I1.hok.fresh (Nat.le_succ s1.heap.objs.size)
    have fx := I1.hok.fresh (Nat.le_refl s1.heap.objs.size)
    have hsp := make_sp (dx := s1.heap.objs.size) (y := s1.heap.objs.size + 1) mo b1 i1 hn q1 fy fx (Nat.ne_of_lt (Nat.lt_succ_self _))
    have I2 := Inv.made (C := cl c0) I1
    have r2 : Vals (V.ref (s1.heap.objs.size + 1) :: vs) (Value.ref (s1.heap.objs.size + 1) :: us) := .cons rfl r
    have hl : ((Value.ref (s1.heap.objs.size + 1) :: us) ++ []).length = ps.length := (congrArg List.length (List.append_nil _)).trans (r2.length.symm.trans (Fo.len _ _ _ _ hsp))
    have bd := hb _ (Value.ref (s1.heap.objs.size + 1) :: us) I2.kIn hl
    rw [List.append_nil] at bd
    refine wpAny_call (make_map (f := fa) I1.kIn M.makes M.init (beq_iff_eq.mp M.fn) (codeAny_mono (Fo.run _ X.stack _ _ ⟨Value.ref (s1.heap.objs.size + 1) :: us, []⟩ _ _ _ (WE W σ) (hr.make (cl c0) us []) (I2.env0.make (cl c0) us []) bd r2 hsp) fun r s' hq => ?_))
    cases r with
    | ok fl => cases fl with
      | ret u =>
        obtain ⟨v, H', I3, rv, ev, q3⟩ := I2.after hq
        subst ev
        exact ⟨rv, V.ref (s1.heap.objs.size + 1), H', I3, rfl, q3⟩
      | _ => exact False.elim hq
    | error er => exact passAt tk σ pins _ _ er s' I2 hq
  · rw [if_neg hn] at q1
    exact False.elim q1

/-! ### a == b, both instances of the class -/
def dEqO (c0 n : Nat) (m : Fn) (f g : DE) : DE := fun s => bindR (f s) fun d s1 => bindR (g s1) fun w s2 => match instF c0 s2.ce w with
  | some _ => ownK c0 n m s2 [d, w] (instF c0 s2.ce d)
  | none => .no
theorem p_eqO (Fo : FnOk X.prog X.w X.K X.mg X.base (L2.CX X.prog X.w) k fa fd ps (spD X.K cl n m)) (hr : Room k X.A) (hb : Binds X.K fd ps []) (tk : Takes X W)
    (hn : PySem.W.notFirst X.K (cl c0) (.ref (cl c0)) = true) (hs : PySem.W.findIn X.K (.ref (cl c0)) "__eq__" = some (some (.ref fa))) (hf : PySem.W.isFn X.K (.ref fa) = true)
    (ha : PEd X cl e W a f) (hbb : PEd X cl e W b g) : PC X .Eq a b (rd X.K cl e W (dEqO c0 n m f g)) := by
  refine ⟨fun pins s σ H Q I h => ?_⟩
  obtain ⟨F, ca, s0, b0, q⟩ := h
  refine thn (ha.run pins s σ H _ I (use_rd b0 q fun v d s1 F1 H1 ca1 b1 i1 x1 p1 q1 => (⟨d, s1, F1, ca1, b1, i1, q1⟩ : ∃ d s1 F1 ca1, Bx X cl e F1 H1 ca1 σ s1 ∧ Is X.K cl F1 ca1 v d ∧ rdK X.K cl e W σ F1 ca1 Q (bindR (g s1) fun w s2 => match instF c0 s2.ce w with
      | some _ => ownK c0 n m s2 [d, w] (instF c0 s2.ce d)
      | none => .no)))) fun u s1 ⟨v, H1, I1, r1, d, t1, F1, ca1, b1, i1, q1⟩ => ?_
  refine thn (hbb.run pins s1 σ H1 _ I1 (use_rd b1 q1 fun v2 w t2 F2 H2 ca2 b2 i2 x2 p2 q2 => (⟨w, t2, F2, ca2, b2, i1.mono x2 p2, i2, q2⟩ : ∃ w t2 F2 ca2, Bx X cl e F2 H2 ca2 σ t2 ∧ Is X.K cl F2 ca2 v d ∧ Is X.K cl F2 ca2 v2 w ∧ rdK X.K cl e W σ F2 ca2 Q (match instF c0 t2.ce w with
      | some _ => ownK c0 n m t2 [d, w] (instF c0 t2.ce d)
      | none => .no)))) fun u2 s2 ⟨v2, H2, I2, r2, w, t2, F2, ca2, b2, j1, j2, q2⟩ => ?_
  cases e1 : instF c0 t2.ce w with
  | none =>
    rw [e1] at q2
    exact False.elim q2
  | some fw =>
    rw [e1] at q2
    obtain ⟨hsp, fs, e2⟩ := own_sp (o := instF c0 t2.ce d) b2 (.cons j1 (.one j2)) q2
    obtain ⟨p, dx, vs, rfl, hH, hi⟩ := inst_ok b2 j1 e2
    obtain ⟨p2, dx2, vs2, rfl, hH2, hi2⟩ := inst_ok b2 j2 e1
    obtain rfl : u = Value.ref p := r1
    obtain rfl : u2 = Value.ref p2 := r2
    obtain ⟨mA, J, _⟩ := ins_get I2.hok hH
    obtain ⟨mB, J', _⟩ := ins_get I2.hok hH2
    obtain ⟨od, J, _⟩ := J.look
    obtain ⟨od', J', _⟩ := J'.look
    obtain ⟨mm, hF⟩ := I2.fr
    exact PySem.W.cmp_K (op := .Eq) (by have := hr.un; omega) hF I2.ok.mod.kin J J'.type hn hs hf (thn (run_fnS (E := WE W) (vs := [.ref p, .ref p2]) Fo hr hb (passAt tk σ) I2 (.cons rfl (.cons rfl .nil)) hsp) fun u3 s3 z => back_ok z)
/-! ### isinstance -/
inductive TyT where
  | non | bl | int | str | lst | tup | own (c : Nat)
def valT (cl : Cl) : TyT → Value
  | .non => .type "NoneType"
  | .bl => .type "bool"
  | .int => .type "int"
  | .str => .type "str"
  | .lst => .type "list"
  | .tup => .type "tuple"
  | .own c => .ref (cl c)
def tyC : Option Cell → Option TyT
  | some (.lst _) => some .lst
  | some (.ins c _) => some (.own c)
  | _ => none
def tyD (ce : List Cell) : D → Option TyT
  | .non => some .non
  | .bl _ => some .bl
  | .int _ => some .int
  | .str _ => some .str
  | .lst _ => some .lst
  | .tup _ => some .tup
  | .obj c _ => some (.own c)
  | .rf j => tyC ce[j]?
  | .ro _ => some .lst
/-- an own class that may be asked for -/
structure OwnTy (K : PySem.W.Frag) (C : Addr) : Prop where
  c : Cls K C
  ha : PySem.W.findIn K (.ref C) "__class__" = some (some (.builtin "object.__class__"))
  hn : PySem.W.specialIn K (.builtin "object.__class__") "__get__" = some (some (.builtin "getset_descriptor.__get__"))
  ht : PySem.W.takesIn K (.builtin "object.__class__") = some true
  hm : PySem.W.mroIn K C (.type "object") = some true
theorem tyD_ok {F H : Hp} {ca : List Addr} {σ : L2.St} {s : S} {v : V} {d : D} {t : TyT} (ow : ∀ c, t = .own c → OwnTy X.K (cl c)) (b : Bx X cl e F H ca σ s) (i : Is X.K cl F ca v d) (q : tyD s.ce d = some t) : TyX X.K H v (valT cl t) := by
  cases i with
  | non =>
    cases q
    exact .base .non
  | bl z =>
    cases q
    exact .base (.bl z)
  | int z =>
    cases q
    exact .base (.int z)
  | str z =>
    cases q
    exact .base (.str z)
  | lst hl hi =>
    cases q
    exact .base (.lst (b.fh _ _ hl))
  | ro hl hi =>
    cases q
    rcases ex_l b.fh hl with (z | ⟨o, z⟩) | z
    · exact .base (.lst z)
    · exact .base (.frz z)
    · obtain ⟨_, _, _, z, z2, _⟩ := z
      exact .kList z z2
  | tup hl hi =>
    cases q
    rcases ex_t b.fh hl with (z | ⟨o, z⟩) | z
    · exact .base (.tup z)
    · exact .fTuple z
    · obtain ⟨_, _, _, z, z2, _⟩ := z
      exact .kTuple z z2
  | obj hl hi =>
    cases q
    have z := ow _ rfl
    exact .base (.ins (b.fh _ _ hl) z.c z.ha z.hn z.ht z.hm)
  | rf hj =>
    obtain ⟨c, h1, h2⟩ := b.cel.at_ hj
    have q' : tyC s.ce[_]? = some t := q
    rw [h1] at q'
    cases c with
    | lst xs =>
      cases q'
      obtain ⟨_, vs, h3, _⟩ := h2
      exact .base (.lst h3)
    | ins c fs =>
      cases q'
      obtain ⟨_, dx, vs, h3, _⟩ := h2
      have z := ow _ rfl
      exact .base (.ins h3 z.c z.ha z.hn z.ht z.hm)
    | _ => cases q'
def isiK (ok ans : TyT → Bool) : Option TyT → Po
  | some t => if ok t = true then .v (.bl (ans t)) else .no
  | none => .no
def isiD (ok ans : TyT → Bool) (ce : List Cell) (d : D) : Po := isiK ok ans (tyD ce d)
/-- isinstance(e, c), c one class -/
theorem d_isi {ok ans : TyT → Bool} {w : V} {u : Value} {cx : Expr} {t0 : Expr} (hk : ∀ t, ok t = true → PySem.W.kitOne X.K (valT cl t) u = some (ans t)) (ow : ∀ c, ok (.own c) = true → OwnTy X.K (cl c)) (hc : PE X cx (tC w)) (hw : ClsV w u)
    (ha : PEd X cl e W a f) (hst : ∀ t : TA, PA X [a, cx] t → PE X t0 (tCB (rIsi X.K) t)) (h1 : starEach [a, cx] X.env = (false, eval a X.env) :: starEach [cx] X.env := by rfl) (h2 : starEach [cx] X.env = (false, eval cx X.env) :: starEach [] X.env := by rfl) : PEd X cl e W t0 (dUn (isiD ok ans) f) :=
  pe_w (hst _ (pa_cons ha (pa_cons hc pa_nil h2) h1)) fun σ H Q ⟨F, ca, s, b, q⟩ => by
    refine use_rd b q fun v d s1 F1 H1 ca1 b1 i1 x1 p1 q1 => ?_
    unfold isiD at q1
    cases e1 : tyD s1.ce d with
    | none =>
      rw [e1] at q1
      exact False.elim q1
    | some t =>
      rw [e1] at q1
      have q2 : rdK X.K cl e W σ F1 ca1 Q (poK s1 (if ok t = true then .v (.bl (ans t)) else .no)) := q1
      by_cases hz : ok t = true
      · rw [if_pos hz] at q2
        exact ⟨v, w, valT cl t, u, ans t, rfl, hw, tyD_ok (fun c ec => ow c (ec ▸ hz)) b1 i1 e1, hk t hz, q2 _ F1 H1 ca1 b1 (Ex.refl _) (Pre.refl _) (.bl _)⟩
      · rw [if_neg hz] at q2
        exact False.elim q2
end
end Dv
set_option maxRecDepth 100000
set_option maxHeartbeats 4000000
/-! comprehensions over a name's list (a cell too), over unequal zips, with two clauses -/
namespace Dv
open PySem PySem.Spec PyProof.Rows L2

/-! ### over a name: its list must not change -/
noncomputable def sameC (j : Nat) (xs : List D) : S → Bool := fun s => @decide (cellL s.ce[j]? = some xs) (Classical.propDecidable _)
theorem sameC_of {j : Nat} {xs : List D} {s : S} : sameC j xs s = true ↔ cellL s.ce[j]? = some xs := by
  unfold sameC
  exact @decide_eq_true_iff _ (Classical.propDecidable _)
noncomputable def varK (t : DT) (vs : List Nat) (c : DB) (f : DE) (s : S) : D → R
  | .lst xs => compL gYes t vs c f xs [] s
  | .ro xs => compL gYes t vs c f xs [] s
  | .rf j => match cellL s.ce[j]? with
    | some xs => compL (sameC j xs) t vs c f xs [] s
    | none => .no
  | _ => .no
noncomputable def dCompV (i : Nat) (t : DT) (vs : List Nat) (c : DB) (f : DE) : DE := fun s => match s.sl[i]? with
  | some (some d) => varK t vs c f s d
  | _ => .no
section
variable {X : Cx} {cl : Cl} {e : Ent} {W : WX} {t : DT} {vs : List Nat} {c : DB} {f : DE} {g : TG}
theorem wk_cell {F : Hp} {ca : List Addr} {a : Addr} {j : Nat} {xs : List D} (hj : ca[j]? = some a) : WkG X cl (sameC j xs) (Itl X.K a) F ca xs := fun e F1 H ca1 σ s b x p hg => by
  obtain ⟨y, h1, h2⟩ := b.cel.at_ (p j a hj)
  have h3 := cellL_eq (sameC_of.mp hg)
  rw [h1] at h3
  cases h3
  obtain ⟨hF, us, hH, hi⟩ := h2
  have hq : SqL X.K H a us := SqL.of hH
  refine ⟨⟨us, hq, by rw [hi.length]; exact Nat.le_refl _⟩, fun i d hd => ?_⟩
  obtain ⟨v, hv, iv⟩ := hi.get hd
  refine ⟨⟨us, v, hq, hv⟩, fun w H' y => ?_⟩
  obtain ⟨rfl, y⟩ := y
  have e1 := y us hq
  rw [hv] at e1
  cases e1
  exact ⟨F1, Ex.refl _, fun _ _ _ n => n, Ex.refl _, b, iv⟩
theorem rd_compV {i : Nat} {σ : L2.St} {H : Hp} {Q : VK} (hg : TgC X cl g t vs) (h : rd X.K cl e W (dCompV i t vs c f) σ H Q) :
    tLc (iList X.K (tVar i)) g (fun σ H Q => ∃ e', rdB X.K cl e' W0 c σ H Q) (fun σ H Q => ∃ e', rd X.K cl e' W0 f σ H Q) vs σ H Q := by
  obtain ⟨F, ca, s, b, q⟩ := h
  unfold dCompV at q
  cases z : s.sl[i]? with
  | none =>
    rw [z] at q
    exact False.elim q
  | some o =>
    rw [z] at q
    cases o with
    | none => exact False.elim q
    | some d =>
      obtain ⟨v, h1, h2⟩ := b.slo i d z
      have q' : rdK X.K cl e W σ F ca Q (varK t vs c f s d) := q
      refine ⟨v, h1, ?_⟩
      cases h2 with
      | lst hl hi => exact ⟨_, rfl, ⟨_, SqL.of (b.fh _ _ hl)⟩, comp_core hg b (wk_list (SqL.of hl) hi) q'⟩
      | ro hl hi => exact ⟨_, rfl, ⟨_, ex_l b.fh hl⟩, comp_core hg b (wk_list hl hi) q'⟩
      | @rf a j hj =>
        have q2 : rdK X.K cl e W σ F ca Q (match cellL s.ce[j]? with
          | some xs => compL (sameC j xs) t vs c f xs [] s
          | none => .no) := q'
        cases e1 : cellL s.ce[j]? with
        | none =>
          rw [e1] at q2
          exact False.elim q2
        | some xs =>
          rw [e1] at q2
          obtain ⟨a', us, e2, hl, _⟩ := look_ok b (.rf hj) (xs := xs) e1
          cases e2
          exact ⟨_, rfl, ⟨_, hl⟩, comp_core hg b (wk_cell hj) q2⟩
      | _ => exact False.elim q'
theorem d_lcV {i : Nat} {elt tgx iter : Expr} {ifs : List Expr} {scope : Scope} {own : List (Str × Nat)} {pos : Pos} (hg : TgC X cl g t (own.map (·.2)))
    (hp : PE X (.ListComp elt [⟨tgx, iter, ifs, 0⟩] scope pos) (tLc (iList X.K (tVar i)) g (fun σ H Q => ∃ e', rdB X.K cl e' W0 c σ H Q) (fun σ H Q => ∃ e', rd X.K cl e' W0 f σ H Q) (own.map (·.2)))) :
    PEd X cl e W (.ListComp elt [⟨tgx, iter, ifs, 0⟩] scope pos) (dCompV i t (own.map (·.2)) c f) := pe_w hp fun _ _ _ q => rd_compV hg q

/-! ### zip of any two lists -/
theorem pairs_min : ∀ {xs ys : List D}, (pairs xs ys).length = min xs.length ys.length
  | [], _ => by simp [pairs]
  | _ :: _, [] => by simp [pairs]
  | a :: as, b :: bs => by
    show (pairs as bs).length + 1 = min (as.length + 1) (bs.length + 1)
    rw [pairs_min (xs := as) (ys := bs)]
    omega
theorem wk_zipU {F : Hp} {ca : List Addr} {a c : Addr} {va vb : List V} {as bs : List D} (la : SqL X.K F a va) (lb : SqL X.K F c vb) (ja : IsL X.K cl F ca va as) (jb : IsL X.K cl F ca vb bs) : WkD X cl (Itz X.K a c) F ca (pairs as bs) := fun e F1 H ca1 σ s b x p _ => by
  have h1 := ex_l (x.trans b.fh) la
  have h2 := ex_l (x.trans b.fh) lb
  refine ⟨⟨va, vb, h1, h2, by rw [pairs_min, ja.length, jb.length]; omega⟩, fun i d hd => ?_⟩
  obtain ⟨d1, d2, e1, e2, rfl⟩ := pairs_get hd
  obtain ⟨v1, hv1, i1⟩ := ja.get e1
  obtain ⟨v2, hv2, i2⟩ := jb.get e2
  refine ⟨⟨va, vb, v1, v2, h1, h2, hv1, hv2⟩, fun w H' y => ?_⟩
  obtain ⟨T, x0, y0, rfl, hT, rfl, y1, y2⟩ := y
  have z1 := y1 va h1
  have z2 := y2 vb h2
  rw [hv1] at z1
  rw [hv2] at z2
  cases z1
  cases z2
  exact wk_new b hT (i1.mono x p) (i2.mono x p)
def zipU : List D → Option (List D)
  | [a, b] => match frL a, frL b with
    | some xs, some ys => some (pairs xs ys)
    | _, _ => none
  | _ => none
theorem zipU_eq {ds xs : List D} (h : zipU ds = some xs) : ∃ a b as bs, ds = [a, b] ∧ frL a = some as ∧ frL b = some bs ∧ xs = pairs as bs := by
  unfold zipU at h
  split at h
  · split at h
    · cases h
      exact ⟨_, _, _, _, rfl, by assumption, by assumption, rfl⟩
    · cases h
  · cases h
theorem ic_zipU {ga : DA} : ItC X cl e W (iZip X.K (rdA X.K cl e W ga)) (iA zipU ga) := ⟨fun F H ca σ s Q k Z b q go => by
  refine use_iAR b q fun vs ds xs s1 F1 H1 ca1 b1 i1 hk q1 => ?_
  obtain ⟨da, db, as, bs, rfl, e1, e2, rfl⟩ := zipU_eq hk
  cases i1 with
  | cons ia it =>
    cases it with
    | cons ib it =>
      cases it
      obtain ⟨a, va, rfl, la, ja⟩ := frL_ok ia e1
      obtain ⟨c, vb, rfl, lb, jb⟩ := frL_ok ib e2
      exact ⟨a, c, va, vb, rfl, ex_l b1.fh la, ex_l b1.fh lb, go _ _ s1 F1 H1 ca1 b1 (wk_zipU la lb ja jb) q1⟩⟩
end

/-! ### two clauses -/
section
variable {K : PySem.W.Frag} {cl : Cl} {e : Ent} {F F' H H' : Hp} {ca ca' : List Addr} {σ σ' : L2.St} {s s' : S} {p : Addr} {o : HO}
/-- the same state, as if it were entered now -/
theorem B.self (b : B K cl e F H ca σ s) : B K cl ⟨F, H, ca⟩ F H ca σ ⟨s.sl, s.ce, s.ce.length⟩ :=
  ⟨b.fh, Ex.refl _, fun _ _ q _ => q, fun _ _ _ n => n, Pre.refl _, fun _ h => .inl h, b.cel, b.len, b.slo, fun _ o q => ⟨o, q⟩, b.cel.1⟩
/-- names wiped -/
theorem B.wiped (b : B K cl e F H ca σ s) (vs : List Nat) : B K cl e F H ca (wipe σ vs) ⟨wipeD s.sl vs, s.ce, s.n0⟩ :=
  b.less (by rw [wipeD_len, wipe_length]; exact b.len) fun i d q => by
    obtain ⟨h1, h2⟩ := wipeD_some q
    obtain ⟨v, h3, h4⟩ := b.slo i d h1
    exact ⟨v, wipe_keep h2 h3, h4⟩
/-- the same slots for another evaluation behind which the heap stands -/
theorem B.slots (b : B K cl e F H ca σ s) (b' : B K cl e F' H' ca' σ' s') (x : Ex F F') (p : Pre ca ca') : B K cl e F' H' ca' σ ⟨s.sl, s'.ce, s'.n0⟩ :=
  b'.less b.len fun i d q => by
    obtain ⟨v, h1, h2⟩ := b.slo i d q
    exact ⟨v, h1, h2.mono x p⟩
/-- a list that is nobody's yet grows -/
theorem B.acc (b : B K cl e F H ca σ s) (hF : F p = none) (hc : p ∉ ca) (h0 : e.H0 p = none) : B K cl e F (upd H p o) ca σ s where
  fh := fun a o h => by rw [upd_ne (ne_of_none h hF)]; exact b.fh a o h
  exF := b.exF
  keep := fun a o h n => by rw [upd_ne (ne_of_none h h0)]; exact b.keep a o h n
  free := b.free
  pre := b.pre
  newc := b.newc
  cel := ⟨b.cel.1, b.cel.2.1, fun j a y h1 h2 => (b.cel.2.2 j a y h1 h2).mono (Ex.refl _) id (upd_ne fun z => hc (z ▸ List.mem_of_getElem? h1)) (Pre.refl _)⟩
  len := b.len
  slo := b.slo
  hcl := fun a o h => by
    obtain ⟨o', z⟩ := b.hcl a o h
    exact ⟨o', by rw [upd_ne (ne_of_none h h0)]; exact z⟩
  n0 := b.n0
/-- the list so far: nobody's -/
def Acc (K : PySem.W.Frag) (cl : Cl) (e : Ent) (F H : Hp) (ca : List Addr) (p : Addr) (acc : List D) : Prop := ∃ va, H p = some (.lst va) ∧ IsL K cl F ca va acc ∧ F p = none ∧ p ∉ ca ∧ e.H0 p = none
/-- .. behind a block -/
theorem Acc.block {acc : List D} (h : Acc K cl e F H ca p acc) (c : B K cl ⟨F, H, ca⟩ F' H' ca' σ' s') : Acc K cl e F' H' ca' p acc := by
  obtain ⟨va, h1, h2, h3, h4, h5⟩ := h
  refine ⟨va, c.keep p _ h1 h4, h2.mono c.exF c.pre, c.free p _ h1 h3, fun hm => ?_, h5⟩
  rcases c.newc p hm with z | z
  · exact h4 z
  · rw [show (Ent.H0 ⟨F, H, ca⟩) p = H p from rfl, h1] at z
    cases z
end
def okI : RI → (List D → S → R) → R
  | .ok xs s, k => k xs s
  | _, _ => .no
def innL (t1 : DT) (vs1 : List Nat) (c1 : DB) (f : DE) (k : List D → S → R) : List D → List D → S → R
  | [], acc, s => k acc s
  | y :: ys, acc, s => tgR (fun s1 => okB (c1 s1) fun b s2 => if b = true then okR (f s2) (fun x s3 => if acc.length < 100000 then innL t1 vs1 c1 f k ys (acc ++ [x]) (outS s s3) else .no) else innL t1 vs1 c1 f k ys acc (outS s s2)) (t1 y (inS vs1 s))
def compL2 (t : DT) (vs : List Nat) (c : DB) (it1 : DI) (t1 : DT) (vs1 : List Nat) (c1 : DB) (f : DE) : List D → List D → S → R
  | [], acc, s => .nl acc s
  | d :: ds, acc, s => tgR (fun s1 => okB (c s1) fun b s2 => if b = true then okI (it1 s2) (fun ys s3 => innL t1 vs1 c1 f (fun acc' s4 => compL2 t vs c it1 t1 vs1 c1 f ds acc' (outS s s4)) ys acc s3) else compL2 t vs c it1 t1 vs1 c1 f ds acc (outS s s2)) (t d (inS vs s))
def dComp2 (it : DI) (t : DT) (vs : List Nat) (c : DB) (it1 : DI) (t1 : DT) (vs1 : List Nat) (c1 : DB) (f : DE) : DE := fun s => bindIR (it s) fun xs s1 => compL2 t vs c it1 t1 vs1 c1 f xs [] s1
section
variable {X : Cx} {cl : Cl} {e : Ent} {W : WX} {t t1 : DT} {vs vs1 : List Nat} {c c1 : DB} {f : DE} {g g1 : TG} {it1 : DI} {wi1 : Ent → TI}
theorem wipe_out {vs : List Nat} {σ σ' : L2.St} (hl : σ'.length = (wipe σ vs).length) (h : ∀ i, i ∉ vs → σ'[i]? = (wipe σ vs)[i]?) : wipe σ' vs = wipe σ vs := by
  refine wipe_ext (by rw [hl, wipe_length]) fun j hj => ?_
  rw [h j hj]
  have gen : ∀ (ρ : L2.St) (ws : List Nat), j ∉ ws → (wipe ρ ws)[j]? = ρ[j]? := by
    intro ρ ws
    induction ws with
    | nil => intro _; rfl
    | cons w ws ih =>
      intro hn
      unfold wipe
      rw [List.getElem?_set_ne (fun z => hn (by rw [z]; exact List.mem_cons_self))]
      exact ih fun z => hn (List.mem_cons_of_mem _ z)
  exact gen σ vs hj
/-- what is walked, asked for its items alone -/
theorem it_use {wi : TI} {it : DI} {F H : Hp} {ca : List Addr} {σ : L2.St} {s s1 : S} {ys : List D} {Z : It → Hp → Prop} (hi : ItC X cl e W0 wi it) (b : Bx X cl e F H ca σ s) (q : it s = .ok ys s1)
    (go : ∀ J F1 H1 ca1, Bx X cl e F1 H1 ca1 σ s1 → WkD X cl J F1 ca1 ys → Z J H1) : wi σ H Z := by
  refine hi.run F H ca σ s (fun _ _ => True) (fun xs s2 => @ite _ (xs = ys ∧ s2 = s1) (Classical.propDecidable _) (.ok .non s2) .no) Z b ?_ fun J xs s2 F1 H1 ca1 b1 wk q1 => ?_
  · rw [q]
    show rdK X.K cl e W0 σ F ca (fun _ _ => True) (@ite _ (ys = ys ∧ s1 = s1) (Classical.propDecidable _) (R.ok .non s1) .no)
    rw [if_pos ⟨rfl, rfl⟩]
    exact fun _ _ _ _ _ _ _ _ => trivial
  · by_cases hz : xs = ys ∧ s2 = s1
    · obtain ⟨rfl, rfl⟩ := hz
      exact go J F1 H1 ca1 b1 wk
    · have q2 : rdK X.K cl e W0 σ F1 ca1 (fun _ _ => True) (@ite _ (xs = ys ∧ s2 = s1) (Classical.propDecidable _) (R.ok .non s2) .no) := q1
      rw [if_neg hz] at q2
      exact False.elim q2
/-- between two turns of the inner walk -/
def Inn (X : Cx) (cl : Cl) (e : Ent) (W : WX) (t1 : DT) (vs1 : List Nat) (c1 : DB) (f : DE) (k : List D → S → R) (σ σ2 : L2.St) (sl : List (Option D)) (n0 : Nat) (s3 : S) (Dl : Addr) (F0 : Hp) (ca0 : List Addr) (Q : VK) (ys : List D) (H : Hp) : Prop :=
  ∃ F ca ce acc, Bx X cl e F H ca σ ⟨sl, ce, n0⟩ ∧ Bx X cl e F H ca σ2 ⟨s3.sl, ce, n0⟩ ∧ Ex F0 F ∧ Pre ca0 ca ∧ Acc X.K cl e F H ca Dl acc ∧ rdK X.K cl e W σ F ca Q (innL t1 vs1 c1 f k ys acc ⟨s3.sl, ce, s3.n0⟩)
theorem inn_turn {k : List D → S → R} {σ σ2 : L2.St} {sl : List (Option D)} {n0 : Nat} {s3 : S} {Dl : Addr} {F0 : Hp} {ca0 : List Addr} {Q : VK} {J : It} {F1 H : Hp} {ca1 : List Addr} {all ys : List D} {y : D} {i : Nat}
    (hg1 : TgC X cl g1 t1 vs1) (wk : WkD X cl J F1 ca1 all) (hy : all[i]? = some y) (hF1 : Ex F1 F0) (hc1 : Pre ca1 ca0)
    (h : Inn X cl e W t1 vs1 c1 f k σ σ2 sl n0 s3 Dl F0 ca0 Q (y :: ys) H) :
    J.go i H ∧ ∀ x H', J.yld i H x H' → g1 x (wipe σ2 vs1) H' fun σ3 H5 => wipe σ3 vs1 = wipe σ2 vs1 ∧ (∃ e', rdB X.K cl e' W0 c1 σ3 H5 fun b H6 =>
      if b = true then (∃ e', rd X.K cl e' W0 f σ3 H6 fun z H7 => ∃ acc, H7 Dl = some (.lst acc) ∧ acc.length < sizeLine ∧ Inn X cl e W t1 vs1 c1 f k σ σ2 sl n0 s3 Dl F0 ca0 Q ys (upd H7 Dl (.lst (acc ++ [z])))) else Inn X cl e W t1 vs1 c1 f k σ σ2 sl n0 s3 Dl F0 ca0 Q ys H6) := by
  obtain ⟨F, ca, ce, acc, bo, bi, x0, p0, ac, q⟩ := h
  obtain ⟨_, wgo⟩ := wk e F H ca σ2 _ bi (hF1.trans x0) (hc1.trans p0) rfl
  obtain ⟨go1, go2⟩ := wgo i y hy
  refine ⟨go1, fun x H3 yl => ?_⟩
  obtain ⟨F3, x3, fr3, xh3, b3, i3⟩ := go2 x H3 yl
  have bo3 := bo.slots b3 x3 (Pre.refl ca)
  obtain ⟨va, hDl, iacc, hFD, hcD, h0D⟩ := ac
  have ac3 : Acc X.K cl e F3 H3 ca Dl acc := ⟨va, xh3 Dl _ hDl, iacc.mono x3 (Pre.refl ca), fr3 Dl _ hDl hFD, hcD, h0D⟩
  have q3 : rdK X.K cl e W σ F ca Q (tgR (fun s1 => okB (c1 s1) fun b s2 => if b = true then okR (f s2) (fun x s4 => if acc.length < 100000 then innL t1 vs1 c1 f k ys (acc ++ [x]) (outS ⟨s3.sl, ce, s3.n0⟩ s4) else .no) else innL t1 vs1 c1 f k ys acc (outS ⟨s3.sl, ce, s3.n0⟩ s2)) (t1 y (inS vs1 ⟨s3.sl, ce, s3.n0⟩))) := q
  have bw : Bx X cl ⟨F3, H3, ca⟩ F3 H3 ca (wipe σ2 vs1) (inS vs1 ⟨s3.sl, ce, s3.n0⟩) := (b3.wiped vs1).self
  cases e1 : t1 y (inS vs1 ⟨s3.sl, ce, s3.n0⟩) with
  | none =>
    rw [e1] at q3
    exact False.elim q3
  | some s4 =>
    rw [e1] at q3
    have q4 : rdK X.K cl e W σ F ca Q (okB (c1 s4) fun b s2 => if b = true then okR (f s2) (fun x s4 => if acc.length < 100000 then innL t1 vs1 c1 f k ys (acc ++ [x]) (outS ⟨s3.sl, ce, s3.n0⟩ s4) else .no) else innL t1 vs1 c1 f k ys acc (outS ⟨s3.sl, ce, s3.n0⟩ s2)) := q3
    refine hg1 ⟨F3, H3, ca⟩ F3 H3 ca (wipe σ2 vs1) _ s4 x y bw i3 e1 _ fun σ' b4 l4 w4 => ⟨wipe_out l4 w4, ⟨F3, H3, ca⟩, F3, ca, s4, b4, ?_⟩
    cases e2 : c1 s4 with
    | ok bb s5 =>
      rw [e2] at q4
      intro F5 H5 ca5 b5 x5 p5
      cases bb with
      | false =>
        rw [if_neg (by decide)]
        have q5 : rdK X.K cl e W σ F ca Q (innL t1 vs1 c1 f k ys acc (outS ⟨s3.sl, ce, s3.n0⟩ s5)) := q4
        have xa := x3.trans x5
        exact ⟨F5, ca5, s5.ce, acc, bo3.block b5, b3.block b5, x0.trans xa, p0.trans p5, ac3.block b5, rdK.back xa p5 q5⟩
      | true =>
        rw [if_pos rfl]
        have q5 : rdK X.K cl e W σ F ca Q (okR (f s5) (fun x s4 => if acc.length < 100000 then innL t1 vs1 c1 f k ys (acc ++ [x]) (outS ⟨s3.sl, ce, s3.n0⟩ s4) else .no)) := q4
        refine ⟨⟨F3, H3, ca⟩, F5, ca5, s5, b5, ?_⟩
        cases e3 : f s5 with
        | ok d6 s6 =>
          rw [e3] at q5
          intro v6 F6 H6 ca6 b6 x6 p6 i6
          have q6 : rdK X.K cl e W σ F ca Q (if acc.length < 100000 then innL t1 vs1 c1 f k ys (acc ++ [d6]) (outS ⟨s3.sl, ce, s3.n0⟩ s6) else .no) := q5
          by_cases hz : acc.length < 100000
          · rw [if_pos hz] at q6
            have xa := (x3.trans x5).trans x6
            have pa := p5.trans p6
            obtain ⟨va6, g1, g2, g3, g4, g5⟩ := ac3.block b6
            refine ⟨va6, g1, ?_, F6, ca6, s6.ce, acc ++ [d6], (bo3.block b6).acc g3 g4 g5, (b3.block b6).acc g3 g4 g5, x0.trans xa, p0.trans pa, ⟨_, upd_same, g2.app (.one i6), g3, g4, g5⟩, rdK.back xa pa q6⟩
            rw [g2.length]
            exact Nat.lt_of_lt_of_le hz (by decide)
          · rw [if_neg hz] at q6
            exact False.elim q6
        | _ =>
          rw [e3] at q5
          exact False.elim q5
    | _ =>
      rw [e2] at q4
      exact False.elim q4
theorem comp2_core {σ : L2.St} {Q : VK} {J : It} {xs : List D} {s1 : S} {F1 H1 : Hp} {ca1 : List Addr} (hg : TgC X cl g t vs) (hi1 : ∀ e', ItC X cl e' W0 (wi1 e') it1) (hg1 : TgC X cl g1 t1 vs1) (b1 : Bx X cl e F1 H1 ca1 σ s1) (wk : WkD X cl J F1 ca1 xs)
    (q1 : rdK X.K cl e W σ F1 ca1 Q (compL2 t vs c it1 t1 vs1 c1 f xs [] s1)) :
    tLc2 (fun _ H Z => Z J H) g (fun σ H Q => ∃ e', rdB X.K cl e' W0 c σ H Q) (fun σ H R => ∃ e', wi1 e' σ H R) g1 (fun σ H Q => ∃ e', rdB X.K cl e' W0 c1 σ H Q) (fun σ H Q => ∃ e', rd X.K cl e' W0 f σ H Q) vs vs1 σ H1 Q := by
  intro Dl hD
  refine ⟨fun i m H => m = xs.length - i ∧ i ≤ xs.length ∧ ∃ F ca s acc, Bx X cl e F H ca σ s ∧ Ex F1 F ∧ Pre ca1 ca ∧ Acc X.K cl e F H ca Dl acc ∧ rdK X.K cl e W σ F ca Q (compL2 t vs c it1 t1 vs1 c1 f (xs.drop i) acc s),
    ⟨xs.length, rfl, Nat.zero_le _, F1, ca1, s1, [], b1.laid hD, Ex.refl _, Pre.refl _, ⟨[], upd_same, .nil, b1.notF hD, b1.notca hD, b1.notH0 hD⟩, q1⟩, ?_⟩
  rintro i m H2 ⟨rfl, hle, F2, ca2, s2, acc, b2, x2, p2, ac2, q2⟩
  obtain ⟨wstop, wgo⟩ := wk e F2 H2 ca2 σ s2 b2 x2 p2 rfl
  by_cases hlt : i < xs.length
  · have hd : xs[i]? = some xs[i] := List.getElem?_eq_getElem hlt
    obtain ⟨go1, go2⟩ := wgo i _ hd
    refine .inr ⟨go1, fun H' => ∃ F ca s acc, Bx X cl e F H' ca σ s ∧ Ex F1 F ∧ Pre ca1 ca ∧ Acc X.K cl e F H' ca Dl acc ∧ rdK X.K cl e W σ F ca Q (compL2 t vs c it1 t1 vs1 c1 f (xs.drop (i + 1)) acc s),
      fun H' r => ⟨xs.length - (i + 1), by omega, rfl, hlt, r⟩, fun x H3 y => ?_⟩
    obtain ⟨F3, x3, fr3, xh3, b3, i3⟩ := go2 x H3 y
    obtain ⟨va, hDl, iacc, hFD, hcD, h0D⟩ := ac2
    have ac3 : Acc X.K cl e F3 H3 ca2 Dl acc := ⟨va, xh3 Dl _ hDl, iacc.mono x3 (Pre.refl _), fr3 Dl _ hDl hFD, hcD, h0D⟩
    rw [List.drop_eq_getElem_cons hlt] at q2
    have q3 : rdK X.K cl e W σ F2 ca2 Q (tgR (fun s1 => okB (c s1) fun b s3 => if b = true then okI (it1 s3) (fun ys s5 => innL t1 vs1 c1 f (fun acc' s4 => compL2 t vs c it1 t1 vs1 c1 f (xs.drop (i + 1)) acc' (outS s2 s4)) ys acc s5) else compL2 t vs c it1 t1 vs1 c1 f (xs.drop (i + 1)) acc (outS s2 s3)) (t xs[i] (inS vs s2))) := q2
    have bw : Bx X cl ⟨F3, H3, ca2⟩ F3 H3 ca2 (wipe σ vs) (inS vs s2) := (b3.wiped vs).self
    cases e1 : t xs[i] (inS vs s2) with
    | none =>
      rw [e1] at q3
      exact False.elim q3
    | some s3 =>
      rw [e1] at q3
      have q4 : rdK X.K cl e W σ F2 ca2 Q (okB (c s3) fun b s3 => if b = true then okI (it1 s3) (fun ys s5 => innL t1 vs1 c1 f (fun acc' s4 => compL2 t vs c it1 t1 vs1 c1 f (xs.drop (i + 1)) acc' (outS s2 s4)) ys acc s5) else compL2 t vs c it1 t1 vs1 c1 f (xs.drop (i + 1)) acc (outS s2 s3)) := q3
      refine hg ⟨F3, H3, ca2⟩ F3 H3 ca2 (wipe σ vs) (inS vs s2) s3 x _ bw i3 e1 _ fun σ' b4 l4 w4 => ⟨wipe_out l4 w4, ⟨F3, H3, ca2⟩, F3, ca2, s3, b4, ?_⟩
      cases e2 : c s3 with
      | ok bb s4 =>
        rw [e2] at q4
        intro F5 H5 ca5 b5 x5 p5
        cases bb with
        | false =>
          rw [if_neg (by decide)]
          have q5 : rdK X.K cl e W σ F2 ca2 Q (compL2 t vs c it1 t1 vs1 c1 f (xs.drop (i + 1)) acc (outS s2 s4)) := q4
          have xa := x3.trans x5
          exact ⟨F5, ca5, outS s2 s4, acc, b3.block b5, x2.trans xa, p2.trans p5, ac3.block b5, rdK.back xa p5 q5⟩
        | true =>
          rw [if_pos rfl]
          have q5 : rdK X.K cl e W σ F2 ca2 Q (okI (it1 s4) (fun ys s5 => innL t1 vs1 c1 f (fun acc' s4 => compL2 t vs c it1 t1 vs1 c1 f (xs.drop (i + 1)) acc' (outS s2 s4)) ys acc s5)) := q4
          cases e3 : it1 s4 with
          | ok ys s5 =>
            rw [e3] at q5
            have q6 : rdK X.K cl e W σ F2 ca2 Q (innL t1 vs1 c1 f (fun acc' s4 => compL2 t vs c it1 t1 vs1 c1 f (xs.drop (i + 1)) acc' (outS s2 s4)) ys acc s5) := q5
            refine ⟨⟨F3, H3, ca2⟩, it_use (hi1 _) b5 e3 fun J1 F6 H6 ca6 b6 wk1 => ?_⟩
            have xa := x3.trans b6.exF
            have pa := b6.pre
            have bo6 := b3.block b6
            have bi6 := bo6.less (σ' := σ') (sl' := s5.sl) b6.len b6.slo
            refine ⟨fun j m H => m = ys.length - j ∧ j ≤ ys.length ∧ Inn X cl e W t1 vs1 c1 f (fun acc' s4 => compL2 t vs c it1 t1 vs1 c1 f (xs.drop (i + 1)) acc' (outS s2 s4)) σ σ' s2.sl s2.n0 s5 Dl F6 ca6 Q (ys.drop j) H,
              ⟨ys.length, rfl, Nat.zero_le _, F6, ca6, s5.ce, acc, bo6, bi6, Ex.refl _, Pre.refl _, ac3.block b6, rdK.back xa pa q6⟩, ?_⟩
            rintro j m H7 ⟨rfl, hje, inn⟩
            by_cases hjl : j < ys.length
            · rw [List.drop_eq_getElem_cons hjl] at inn
              obtain ⟨g1', tn⟩ := inn_turn hg1 wk1 (List.getElem?_eq_getElem hjl) (Ex.refl _) (Pre.refl _) inn
              exact .inr ⟨g1', fun H' => Inn X cl e W t1 vs1 c1 f (fun acc' s4 => compL2 t vs c it1 t1 vs1 c1 f (xs.drop (i + 1)) acc' (outS s2 s4)) σ σ' s2.sl s2.n0 s5 Dl F6 ca6 Q (ys.drop (j + 1)) H', fun H' r => ⟨ys.length - (j + 1), by omega, rfl, hjl, r⟩, tn⟩
            · have ej : j = ys.length := by omega
              subst ej
              obtain ⟨F7, ca7, ce7, acc7, bo7, bi7, x7, p7, ac7, q7⟩ := inn
              obtain ⟨wst, _⟩ := wk1 e F7 H7 ca7 σ' _ bi7 x7 p7 rfl
              refine .inl ⟨wst, F7, ca7, outS s2 ⟨s5.sl, ce7, s5.n0⟩, acc7, bo7, x2.trans (xa.trans x7), p2.trans (pa.trans p7), ac7, ?_⟩
              rw [List.drop_length] at q7
              exact q7
          | _ =>
            rw [e3] at q5
            exact False.elim q5
      | _ =>
        rw [e2] at q4
        exact False.elim q4
  · have e1 : i = xs.length := by omega
    subst e1
    refine .inl ⟨wstop, ?_⟩
    rw [List.drop_length] at q2
    obtain ⟨va, hDl, iacc, hFD, hcD, h0D⟩ := ac2
    have q3 : rdK X.K cl e W σ F2 ca2 Q (.nl acc s2) := q2
    exact q3 (.ref Dl) F2 H2 ca2 b2 (Ex.refl _) (Pre.refl _) ⟨Dl, va, rfl, hDl, iacc, hFD, hcD, h0D⟩
theorem rd_comp2 {wi : TI} {it : DI} {σ : L2.St} {H : Hp} {Q : VK} (hi : ItC X cl e W wi it) (hg : TgC X cl g t vs) (hi1 : ∀ e', ItC X cl e' W0 (wi1 e') it1) (hg1 : TgC X cl g1 t1 vs1) (h : rd X.K cl e W (dComp2 it t vs c it1 t1 vs1 c1 f) σ H Q) :
    tLc2 wi g (fun σ H Q => ∃ e', rdB X.K cl e' W0 c σ H Q) (fun σ H R => ∃ e', wi1 e' σ H R) g1 (fun σ H Q => ∃ e', rdB X.K cl e' W0 c1 σ H Q) (fun σ H Q => ∃ e', rd X.K cl e' W0 f σ H Q) vs vs1 σ H Q := by
  obtain ⟨F, ca, s, b, q⟩ := h
  exact hi.run F H ca σ s Q _ _ b q fun J xs s1 F1 H1 ca1 b1 wk q1 => comp2_core hg hi1 hg1 b1 wk q1
theorem pi_ex {tgx iter : Expr} {wi : Ent → TI} (h : ∀ e', PI X tgx iter (wi e')) : PI X tgx iter (fun σ H R => ∃ e', wi e' σ H R) := ⟨fun pins s σ H R I ⟨e', q⟩ => (h e').run pins s σ H R I q⟩
theorem d_lc2 {elt tgx iter tgx1 iter1 : Expr} {ifs ifs1 : List Expr} {scope : Scope} {own : List (Str × Nat)} {pos : Pos} {wi : TI} {it : DI} (hi : ItC X cl e W wi it) (hg : TgC X cl g t (own.map (·.2))) (hi1 : ∀ e', ItC X cl e' W0 (wi1 e') it1) (hg1 : TgC X cl g1 t1 vs1)
    (hp : PE X (.ListComp elt [⟨tgx, iter, ifs, 0⟩, ⟨tgx1, iter1, ifs1, 0⟩] scope pos) (tLc2 wi g (fun σ H Q => ∃ e', rdB X.K cl e' W0 c σ H Q) (fun σ H R => ∃ e', wi1 e' σ H R) g1 (fun σ H Q => ∃ e', rdB X.K cl e' W0 c1 σ H Q) (fun σ H Q => ∃ e', rd X.K cl e' W0 f σ H Q) (own.map (·.2)) vs1)) :
    PEd X cl e W (.ListComp elt [⟨tgx, iter, ifs, 0⟩, ⟨tgx1, iter1, ifs1, 0⟩] scope pos) (dComp2 it t (own.map (·.2)) c it1 t1 vs1 c1 f) := pe_w hp fun _ _ _ q => rd_comp2 hi hg hi1 hg1 q
end
end Dv
set_option maxRecDepth 100000
set_option maxHeartbeats 4000000
/-! raise; slices; math.lcm; loops over a cell; list(range(..)) -/
namespace Dv
open PySem PySem.Spec PyProof.Rows L2

/-! ### raise C('m') -/
def sRaise (c : Nat) : DS := fun s => .er ⟨c, []⟩ s
/-- a branch that isn't taken -/
def sNever : DS := fun _ => .no
section
variable {X : Cx} {cl : Cl} {e : Ent} {W : WX}
theorem s_raise {x : Expr} {c : Nat} {pos : Pos} (hc : X.calm = true) (tk : Takes X W) (he : PMk X x (fun _ H Q => Q (.ref (cl c)) none H)) : PSd X cl e W (.Raise (some x) none pos) (sRaise c) :=
  ps_w (ps_raise hc tk he) fun Dn σ H ⟨F, ca, s, b, q⟩ => q (.ref (cl c)) none σ F H ca b ⟨rfl, rfl⟩
theorem s_never {st : Stmt} : PSd X cl e W st sNever := ⟨fun _ _ _ _ _ _ h => by
  obtain ⟨F, ca, s, b, q⟩ := h
  exact False.elim q⟩
theorem ss_never {st : List Stmt} : PSsd X cl e W st sNever := ⟨fun _ _ _ _ _ _ h => by
  obtain ⟨F, ca, s, b, q⟩ := h
  exact False.elim q⟩
theorem e_never {x : Expr} : PEd X cl e W x (fun _ => .no) := ⟨fun _ _ _ _ _ _ h => by
  obtain ⟨F, ca, s, b, q⟩ := h
  exact False.elim q⟩
end

/-! ### xs[lo:hi] -/
abbrev DPt := S → RI
/-- a part of a slice: none, or an int -/
inductive RP where
  | ok (i : Option Int) (s : S)
  | er (x : Xc) (s : S)
  | no
abbrev DP := S → RP
def bindPR : RP → (Option Int → S → R) → R
  | .ok d s, k => k d s
  | .er x s, _ => .er x s
  | .no, _ => .no
def ptNone : DP := fun s => .ok none s
def ptK (s : S) : D → RP
  | .int i => .ok (some i) s
  | _ => .no
def bindRP : R → (D → S → RP) → RP
  | .ok d s, k => k d s
  | .er x s, _ => .er x s
  | _, _ => .no
def ptSome (f : DE) : DP := fun s => bindRP (f s) fun d s1 => ptK s1 d
def cutD (xs : List D) (lo hi : Option Int) : List D := (xs.drop (HT.sIx xs.length 0 lo)).take (HT.sIx xs.length xs.length hi - HT.sIx xs.length 0 lo)
def cutK (s : S) (lo hi : Option Int) : Option (List D) → R
  | some xs => .nl (cutD xs lo hi) s
  | none => .no
def dSlice (f : DE) (l h : DP) : DE := fun s => bindR (f s) fun d s1 => bindPR (l s1) fun lo s2 => bindPR (h s2) fun hi s3 => cutK s3 lo hi (look s3.ce d)
section
variable {X : Cx} {cl : Cl} {e : Ent} {W : WX}
structure POd (X : Cx) (cl : Cl) (e : Ent) (W : WX) (x : Option Expr) (f : DP) : Prop where
  ex : ∃ t : TO, PO X x t ∧ ∀ (F H : Hp) (ca : List Addr) (σ : L2.St) (s : S) (Q : VK) (k : Option Int → S → R) (Z : Option Int → Hp → Prop), Bx X cl e F H ca σ s → rdK X.K cl e W σ F ca Q (bindPR (f s) k) →
    (∀ o s1 F1 H1 ca1, Bx X cl e F1 H1 ca1 σ s1 → Ex F F1 → Pre ca ca1 → rdK X.K cl e W σ F1 ca1 Q (k o s1) → Z o H1) → t σ H Z
theorem p_none : POd X cl e W none ptNone := ⟨_, po_none, fun F H ca σ s Q k Z b q go => go none s F H ca b (Ex.refl F) (Pre.refl ca) q⟩
theorem p_some {x : Expr} {f : DE} (h : PEd X cl e W x f) : POd X cl e W (some x) (ptSome f) := ⟨_, po_some h, fun F H ca σ s Q k Z b q go => by
  refine ⟨F, ca, s, b, ?_⟩
  unfold ptSome at q
  cases e1 : f s with
  | ok d s1 =>
    rw [e1] at q
    intro v F1 H1 ca1 b1 x1 p1 i1
    cases i1 with
    | int i => exact ⟨i, rfl, go (some i) s1 F1 H1 ca1 b1 x1 p1 (rdK.back x1 p1 q)⟩
    | _ => exact False.elim q
  | er xc s1 =>
    rw [e1] at q
    exact q
  | _ =>
    rw [e1] at q
    exact False.elim q⟩
theorem d_slice {a : Expr} {lo hi : Option Expr} {f : DE} {l h : DP} {p2 pos : Pos} (ha : PEd X cl e W a f) (hl : POd X cl e W lo l) (hh : POd X cl e W hi h) : PEd X cl e W (.Subscript a (.Slice lo hi none p2) pos) (dSlice f l h) := by
  obtain ⟨tl, pl, gl⟩ := hl.ex
  obtain ⟨th, ph, gh⟩ := hh.ex
  refine pe_w (pe_slice (sl_list (X := X)) ha pl ph) fun σ H Q ⟨F, ca, s, b, q⟩ => ?_
  refine use_rd b q fun v d s1 F1 H1 ca1 b1 i1 x1 p1 q1 => ?_
  refine gl F1 H1 ca1 σ s1 Q _ _ b1 q1 fun o s2 F2 H2 ca2 b2 x2 p2 q2 => ?_
  refine gh F2 H2 ca2 σ s2 Q _ _ b2 q2 fun u s3 F3 H3 ca3 b3 x3 p3 q3 => ?_
  cases e1 : look s3.ce d with
  | none =>
    rw [e1] at q3
    exact False.elim q3
  | some xs =>
    rw [e1] at q3
    obtain ⟨p, vs, rfl, hq, hi⟩ := look_ok b3 (i1.mono (x2.trans x3) (p2.trans p3)) e1
    refine ⟨p, vs, rfl, hq, fun r hr => ?_⟩
    have ec : IsL X.K cl F3 ca3 (cutV vs o u) (cutD xs o u) := by
      unfold cutV cutD
      rw [hi.length]
      exact (hi.drop _).take _
    exact q3 (.ref r) F3 _ ca3 (b3.laid hr) (Ex.refl F3) (Pre.refl ca3) ⟨r, _, rfl, upd_same, ec, b3.notF hr, b3.notca hr, b3.notH0 hr⟩
end

/-! ### math.lcm -/
def lcmD (_ : List Cell) : D → D → Po
  | .int i, .int j => if bits i < 6000 ∧ bits j < 6000 then .v (.int ((Nat.lcm i.natAbs j.natAbs : Nat) : Int)) else .no
  | _, _ => .no
def rLcm : List V → Hp → VK → Prop := fun vs H Q => ∃ a b : Int, vs = [.int a, .int b] ∧ bits a < 6000 ∧ bits b < 6000 ∧ Q (.int ((Nat.lcm a.natAbs b.natAbs : Nat) : Int)) H
theorem log2_max (m n k : Nat) (h1 : m.log2 < k) (h2 : n.log2 < k) : (max m n).log2 < k := by
  by_cases h : m ≤ n
  · rw [Nat.max_eq_right h]
    exact h2
  · rw [Nat.max_eq_left (by omega)]
    exact h1
theorem lcm_bits {a b : Nat} (h1 : a.log2 < 6000) (h2 : b.log2 < 6000) : (Nat.lcm a b).log2 < 12001 := by
  by_cases h0 : Nat.lcm a b = 0
  · rw [h0]
    decide
  · refine (Nat.log2_lt h0).mpr ?_
    have ha : a < 2 ^ 6000 := Nat.lt_of_lt_of_le Nat.lt_log2_self (Nat.pow_le_pow_right (by decide) h1)
    have hb : b < 2 ^ 6000 := Nat.lt_of_lt_of_le Nat.lt_log2_self (Nat.pow_le_pow_right (by decide) h2)
    have hp : 0 < a ∧ 0 < b := by
      constructor
      · refine Nat.pos_of_ne_zero fun z => h0 ?_
        rw [z, Nat.lcm_zero_left]
      · refine Nat.pos_of_ne_zero fun z => h0 ?_
        rw [z, Nat.lcm_zero_right]
    have hle : Nat.lcm a b ≤ a * b := Nat.le_of_dvd (Nat.mul_pos hp.1 hp.2) (Nat.lcm_dvd_mul a b)
    have hm : a * b < 2 ^ 6000 * 2 ^ 6000 := Nat.mul_lt_mul_of_lt_of_lt ha hb
    rw [← Nat.pow_add] at hm
    exact Nat.lt_trans (Nat.lt_of_le_of_lt hle hm) (Nat.pow_lt_pow_right (by decide) (by decide))
section
variable {X : Cx} {cl : Cl} {e : Ent} {W : WX}
theorem cr_lcm : CallR X (.builtin "math.lcm") rLcm := by
  intro pins s σ H vs us Q I r h
  obtain ⟨a, b, rfl, h1, h2, q⟩ := h
  obtain ⟨t, u, rfl⟩ := Vals.int2 r
  unfold bits at h1 h2
  have m1 : (max 1 a.natAbs).log2 < 6000 := log2_max _ _ _ (by decide) h1
  have m2 : (max a.natAbs b.natAbs).log2 < 6000 := log2_max _ _ _ h1 h2
  have e1 : Nat.lcm 1 a.natAbs = a.natAbs := Nat.lcm_one_left _
  refine call_function_meets PySem.W.MGF.kind_lcm PySem.W.MGF.plain_lcm PySem.W.MGF.entry_lcm (PySem.W.MGF.args_lcm _ _) (PySem.W.mg_run_lcm a t b u (by omega) (by omega) ?_).meets ?_
  · rw [e1, Int.natAbs_natCast]
    exact Nat.lt_trans (lcm_bits h1 h2) (by decide)
  · rw [e1]
    exact ⟨.int _, H, I.tok _, ⟨_, rfl⟩, q⟩
theorem bd_lcm : BiD X cl e rLcm (b2 lcmD) := bd2 fun F H ca σ s v w d f b i j => by
  cases i with
  | int i =>
    cases j with
    | int j =>
      show PoK X cl e F H ca σ s _ (if bits i < 6000 ∧ bits j < 6000 then .v (.int ((Nat.lcm i.natAbs j.natAbs : Nat) : Int)) else .no)
      by_cases hz : bits i < 6000 ∧ bits j < 6000
      · rw [if_pos hz]
        exact .val b (.int _) fun Q q => ⟨i, j, rfl, hz.1, hz.2, q⟩
      · rw [if_neg hz]
        trivial
    | _ => trivial
  | _ => cases j <;> trivial
end
end Dv
set_option maxRecDepth 100000
set_option maxHeartbeats 4000000
/-! dicts in cells -/
namespace Dv
open PySem PySem.Spec PyProof.Rows L2

def keyD : D → Option Key
  | .int i => some (.inl i)
  | .str s => some (.inr s)
  | _ => none
def valKD : List (Key × D) → Key → Option D
  | [], _ => none
  | p :: r, k => if p.1 = k then some p.2 else valKD r k
def putKD (kvs : List (Key × D)) (k : Key) (d : D) : List (Key × D) := match valKD kvs k with
  | some _ => kvs.map fun p => (p.1, if p.1 = k then d else p.2)
  | none => kvs ++ [(k, d)]
def cellD : Option Cell → Option (List (Key × D))
  | some (.dic kvs) => some kvs
  | _ => none
section
variable {K : PySem.W.Frag} {cl : Cl} {F : Hp} {ca : List Addr}
theorem keyD_ok {v : V} {d : D} {k : Key} (h : Is K cl F ca v d) (q : keyD d = some k) : v = kV k := by
  cases h with
  | int i =>
    cases q
    rfl
  | str s =>
    cases q
    rfl
  | _ => cases q
theorem isK_val {k : Key} : ∀ {vs : List (Key × V)} {kvs : List (Key × D)}, IsK K cl F ca vs kvs → (valKD kvs k = none → valV vs k = none) ∧ ∀ d, valKD kvs k = some d → ∃ v, valV vs k = some v ∧ Is K cl F ca v d
  | _, _, .nil => ⟨fun _ => rfl, fun d q => by cases q⟩
  | _, (k', d') :: kvs, .cons (v := v) (vs := vs) i t => by
    obtain ⟨h1, h2⟩ := isK_val (k := k) t
    by_cases z : k' = k
    · rw [valV_pos (show ((k', v) : Key × V).1 = k from z)]
      unfold valKD
      rw [if_pos z]
      exact ⟨(by intro q; cases q), fun d q => by
        cases q
        exact ⟨v, rfl, i⟩⟩
    · rw [valV_neg (show ¬ ((k', v) : Key × V).1 = k from z)]
      unfold valKD
      rw [if_neg z]
      exact ⟨h1, h2⟩
theorem isK_len : ∀ {vs : List (Key × V)} {kvs : List (Key × D)}, IsK K cl F ca vs kvs → vs.length = kvs.length
  | _, _, .nil => rfl
  | _, _, .cons _ t => by rw [List.length_cons, List.length_cons, isK_len t]
theorem isK_map {k : Key} {v : V} {d : D} (i : Is K cl F ca v d) : ∀ {vs : List (Key × V)} {kvs : List (Key × D)}, IsK K cl F ca vs kvs → IsK K cl F ca (vs.map fun p => if p.1 = k then (p.1, v) else p) (kvs.map fun p => (p.1, if p.1 = k then d else p.2))
  | _, _, .nil => .nil
  | _, (k', d') :: kvs, .cons (v := w) (vs := vs) j t => by
    have ih := isK_map i (k := k) t
    rw [List.map_cons, List.map_cons]
    by_cases z : k' = k
    · rw [if_pos z, if_pos z]
      exact .cons i ih
    · rw [if_neg z, if_neg z]
      exact .cons j ih
theorem isK_app : ∀ {vs ws : List (Key × V)} {kvs lvs : List (Key × D)}, IsK K cl F ca vs kvs → IsK K cl F ca ws lvs → IsK K cl F ca (vs ++ ws) (kvs ++ lvs)
  | _, _, _, _, .nil, t => t
  | _, _, _, _, .cons i s, t => .cons i (isK_app s t)
theorem isK_put {k : Key} {v : V} {d : D} {vs : List (Key × V)} {kvs : List (Key × D)} (h : IsK K cl F ca vs kvs) (i : Is K cl F ca v d) : IsK K cl F ca (putK vs k v) (putKD kvs k d) := by
  obtain ⟨h1, h2⟩ := isK_val (k := k) h
  unfold putK putKD
  rw [valV_any]
  cases z : valKD kvs k with
  | none =>
    rw [h1 z, if_neg (by simp)]
    exact isK_app h (.cons i .nil)
  | some x =>
    obtain ⟨w, hw, _⟩ := h2 x z
    rw [hw, if_pos (show (some w).isSome = true from rfl)]
    exact isK_map i h
end
section
variable {X : Cx} {cl : Cl} {e : Ent} {W : WX}
theorem dic_ok {F H : Hp} {ca : List Addr} {σ : L2.St} {s : S} {v : V} {j : Nat} {kvs : List (Key × D)} (b : Bx X cl e F H ca σ s) (h : Is X.K cl F ca v (.rf j)) (q : cellD s.ce[j]? = some kvs) : ∃ a vs, v = .ref a ∧ ca[j]? = some a ∧ F a = none ∧ H a = some (.dK vs) ∧ IsK X.K cl F ca vs kvs := by
  cases h with
  | rf hj =>
    obtain ⟨c, h1, h2⟩ := b.cel.at_ hj
    rw [h1] at q
    cases c with
    | dic ys =>
      cases q
      obtain ⟨hF, vs, h3, h4⟩ := h2
      exact ⟨_, vs, rfl, hj, hF, h3, h4⟩
    | _ => cases q
/-! {} -/
def dNewD : DE := fun s => .ok (.rf s.ce.length) ⟨s.sl, s.ce ++ [.dic []], s.n0⟩
theorem d_newd {pos : Pos} : PEd X cl e W (.Dict [] [] pos) dNewD := pe_w pe_dnewK fun σ H Q ⟨F, ca, s, b, q⟩ => fun p hp =>
  q (.ref p) F _ (ca ++ [p]) ((b.laid hp).cell (c := .dic []) ⟨b.notF hp, [], upd_same, .nil⟩ (b.notca hp) (b.notH0 hp)) (Ex.refl F) (Pre.app ca [p]) (.rf (pre_last b.cel.1))
/-! d[k] = v -/
def putK' (s : S) (d : D) : D → D → O
  | .rf j, y => match cellD s.ce[j]?, keyD y with
    | some kvs, some k => if kvs.length < 100000 then .nx ⟨s.sl, s.ce.set j (.dic (putKD kvs k d)), s.n0⟩ else .no
    | _, _ => .no
  | _, _ => .no
def sPutD (fo fk fv : DE) : DS := fun s => bindO (fv s) fun d s1 => bindO (fo s1) fun o s2 => bindO (fk s2) fun y s3 => putK' s3 d o y
theorem s_putd {st : Stmt} {fo fk fv : DE} (hst : PS X st (sDPut (rd X.K cl e W fo) (rd X.K cl e W fk) (rd X.K cl e W fv))) : PSd X cl e W st (sPutD fo fk fv) :=
  ps_w hst fun Dn σ H ⟨F, ca, s, b, q⟩ => by
    refine useS_rd b q fun v d s1 F1 H1 ca1 b1 i1 x1 p1 q1 => ?_
    refine useS_rd b1 q1 fun w o s2 F2 H2 ca2 b2 i2 x2 p2 q2 => ?_
    refine useS_rd b2 q2 fun u y s3 F3 H3 ca3 b3 i3 x3 p3 q3 => ?_
    cases o with
    | rf j =>
      have q4 : rdSK X.K cl e W F3 ca3 Dn (match cellD s3.ce[j]?, keyD y with
        | some kvs, some k => if kvs.length < 100000 then .nx ⟨s3.sl, s3.ce.set j (.dic (putKD kvs k d)), s3.n0⟩ else .no
        | _, _ => .no) := q3
      cases e1 : cellD s3.ce[j]? with
      | none =>
        rw [e1] at q4
        exact False.elim q4
      | some kvs =>
        rw [e1] at q4
        cases e2 : keyD y with
        | none =>
          rw [e2] at q4
          exact False.elim q4
        | some k =>
          rw [e2] at q4
          have q5 : rdSK X.K cl e W F3 ca3 Dn (if kvs.length < 100000 then .nx ⟨s3.sl, s3.ce.set j (.dic (putKD kvs k d)), s3.n0⟩ else .no) := q4
          by_cases hz : kvs.length < 100000
          · rw [if_pos hz] at q5
            obtain ⟨a, vs, rfl, ha, hF, hH, hi⟩ := dic_ok b3 (i2.mono x3 p3) e1
            refine ⟨a, _, rfl, .inl ⟨vs, k, hH, keyD_ok i3 e2, ?_, rfl⟩, ?_⟩
            · rw [isK_len hi]
              exact Nat.lt_of_lt_of_le hz (by decide)
            · exact q5 σ F3 _ ca3 (b3.write ha hF ⟨hF, _, upd_same, isK_put hi (i1.mono (x2.trans x3) (p2.trans p3))⟩) (Ex.refl F3) (Pre.refl ca3)
          · rw [if_neg hz] at q5
            exact False.elim q5
    | _ => exact False.elim q3
/-! d.get(k, x), d[k] -/
def getK (s : S) (x : D) : D → D → R
  | .rf j, y => match cellD s.ce[j]?, keyD y with
    | some kvs, some k => .ok ((valKD kvs k).getD x) s
    | _, _ => .no
  | _, _ => .no
def isDic (ce : List Cell) : D → Bool
  | .rf j => (cellD ce[j]?).isSome
  | _ => false
def dGetD (fo fk fx : DE) : DE := fun s => bindR (fo s) fun o s1 => if isDic s1.ce o = true then bindR (fk s1) fun y s2 => bindR (fx s2) fun x s3 => getK s3 x o y else .no
theorem d_getd {t0 : Expr} {fo fk fx : DE} (hst : PE X t0 (tDGet2 (rd X.K cl e W fo) (rd X.K cl e W fk) (rd X.K cl e W fx))) : PEd X cl e W t0 (dGetD fo fk fx) :=
  pe_w hst fun σ H Q ⟨F, ca, s, b, q⟩ => by
    refine use_rd b q fun v o s1 F1 H1 ca1 b1 i1 x1 p1 q1 => ?_
    by_cases hz : isDic s1.ce o = true
    · rw [if_pos hz] at q1
      cases o with
      | rf j =>
        obtain ⟨kv0, e0⟩ := Option.isSome_iff_exists.mp (show (cellD s1.ce[j]?).isSome = true from hz)
        obtain ⟨a, vs0, rfl, ha0, hF0, hH0, _⟩ := dic_ok b1 i1 e0
        refine ⟨a, rfl, .inl ⟨vs0, .inl hH0⟩, ?_⟩
        refine use_rd b1 q1 fun w y s2 F2 H2 ca2 b2 i2 x2 p2 q2 => ?_
        refine use_rd b2 q2 fun u x s3 F3 H3 ca3 b3 i3 x3 p3 q3 => ?_
        have q4 : rdK X.K cl e W σ F3 ca3 Q (match cellD s3.ce[j]?, keyD y with
          | some kvs, some k => .ok ((valKD kvs k).getD x) s3
          | _, _ => .no) := q3
        cases e1 : cellD s3.ce[j]? with
        | none =>
          rw [e1] at q4
          exact False.elim q4
        | some kvs =>
          rw [e1] at q4
          cases e2 : keyD y with
          | none =>
            rw [e2] at q4
            exact False.elim q4
          | some k =>
            rw [e2] at q4
            obtain ⟨a', vs, ea, ha, hF, hH, hi⟩ := dic_ok b3 (i1.mono (x2.trans x3) (p2.trans p3)) e1
            cases ea
            obtain ⟨h1, h2⟩ := isK_val (k := k) hi
            refine ⟨valV vs k, .inl ⟨vs, k, .inl hH, keyD_ok (i2.mono x3 p3) e2, rfl⟩, ?_⟩
            have q4 : rdK X.K cl e W σ F3 ca3 Q (.ok ((valKD kvs k).getD x) s3) := q4
            cases e3 : valKD kvs k with
            | none =>
              rw [e3] at q4
              rw [h1 e3]
              exact q4 _ F3 H3 ca3 b3 (Ex.refl F3) (Pre.refl ca3) i3
            | some d =>
              rw [e3] at q4
              obtain ⟨w', hw, iw⟩ := h2 d e3
              rw [hw]
              exact q4 _ F3 H3 ca3 b3 (Ex.refl F3) (Pre.refl ca3) iw
      | _ => cases hz
    · rw [if_neg hz] at q1
      exact False.elim q1
def subK (s : S) : D → D → R
  | .rf j, y => match cellD s.ce[j]?, keyD y with
    | some kvs, some k => poK s (match valKD kvs k with
      | some d => .v d
      | none => .no)
    | _, _ => .no
  | _, _ => .no
def dSubD (fo fk : DE) : DE := fun s => bindR (fo s) fun o s1 => bindR (fk s1) fun y s2 => subK s2 o y
theorem d_subd {t0 : Expr} {fo fk : DE} (hst : PE X t0 (tDGet (rd X.K cl e W fo) (rd X.K cl e W fk))) : PEd X cl e W t0 (dSubD fo fk) :=
  pe_w hst fun σ H Q ⟨F, ca, s, b, q⟩ => by
    refine use_rd b q fun v o s1 F1 H1 ca1 b1 i1 x1 p1 q1 => ?_
    refine use_rd b1 q1 fun w y s2 F2 H2 ca2 b2 i2 x2 p2 q2 => ?_
    cases o with
    | rf j =>
      have q4 : rdK X.K cl e W σ F2 ca2 Q (match cellD s2.ce[j]?, keyD y with
        | some kvs, some k => poK s2 (match valKD kvs k with
          | some d => .v d
          | none => .no)
        | _, _ => .no) := q2
      cases e1 : cellD s2.ce[j]? with
      | none =>
        rw [e1] at q4
        exact False.elim q4
      | some kvs =>
        rw [e1] at q4
        cases e2 : keyD y with
        | none =>
          rw [e2] at q4
          exact False.elim q4
        | some k =>
          rw [e2] at q4
          obtain ⟨a, vs, rfl, ha, hF, hH, hi⟩ := dic_ok b2 (i1.mono x2 p2) e1
          have q4 : rdK X.K cl e W σ F2 ca2 Q (poK s2 (match valKD kvs k with
            | some d => .v d
            | none => .no)) := q4
          cases e3 : valKD kvs k with
          | none =>
            rw [e3] at q4
            exact False.elim q4
          | some d =>
            rw [e3] at q4
            obtain ⟨w', hw, iw⟩ := (isK_val (k := k) hi).2 d e3
            exact ⟨a, w', rfl, .inl ⟨vs, k, .inl hH, keyD_ok i2 e2, hw.symm⟩, q4 _ F2 H2 ca2 b2 (Ex.refl F2) (Pre.refl ca2) iw⟩
    | _ => exact False.elim q2
/-! [x for x in d if d[x]] -/
def ofKey : Key → D
  | .inl i => .int i
  | .inr s => .str s
def truesK : List (Key × D) → Option (List D)
  | [] => some []
  | (k, .bl b) :: r => (truesK r).map fun l => if b = true then ofKey k :: l else l
  | _ => none
def keysTK (s : S) (kvs : List (Key × D)) : Option (List D) → R
  | some ks => if kvs.length ≤ 100000 ∧ (kvs.map (·.1)).Nodup then .nl ks s else .no
  | none => .no
def keysTD (s : S) : Option (List (Key × D)) → R
  | some kvs => keysTK s kvs (truesK kvs)
  | none => .no
def dKeysT (i j : Nat) : DE := fun s => match s.sl[i]? with
  | some (some (.rf c)) => if j < s.sl.length then keysTD s (cellD s.ce[c]?) else .no
  | _ => .no
def truV : List (Key × V) → List V
  | [] => []
  | (k, .bl true) :: r => kV k :: truV r
  | _ :: r => truV r
theorem truV_app : ∀ (l m : List (Key × V)), truV (l ++ m) = truV l ++ truV m
  | [], m => rfl
  | (k, v) :: l, m => by
    have ih := truV_app l m
    cases v with
    | bl b =>
      cases b with
      | true =>
        show kV k :: truV (l ++ m) = kV k :: (truV l ++ truV m)
        rw [ih]
      | false => exact ih
    | _ => exact ih
theorem truV_len : ∀ (l : List (Key × V)), (truV l).length ≤ l.length
  | [] => Nat.le_refl _
  | (k, v) :: l => by
    have ih := truV_len l
    cases v with
    | bl b =>
      cases b with
      | true => exact Nat.succ_le_succ ih
      | false => exact Nat.le_succ_of_le ih
    | _ => exact Nat.le_succ_of_le ih
theorem trues_ok {F : Hp} {ca : List Addr} : ∀ {vs : List (Key × V)} {kvs : List (Key × D)} {ks : List D}, IsK X.K cl F ca vs kvs → truesK kvs = some ks → IsL X.K cl F ca (truV vs) ks ∧ vs.map (·.1) = kvs.map (·.1) ∧ ∀ p ∈ vs, ∃ b, p.2 = V.bl b
  | _, _, _, .nil, q => by
    cases q
    exact ⟨.nil, rfl, fun p hp => by cases hp⟩
  | _, (k, d) :: kvs, ks, .cons (v := v) (vs := vs) i t, q => by
    cases d with
    | bl b =>
      have q' : (truesK kvs).map (fun l => if b = true then ofKey k :: l else l) = some ks := q
      cases e1 : truesK kvs with
      | none =>
        rw [e1] at q'
        cases q'
      | some l =>
        rw [e1] at q'
        cases q'
        obtain ⟨h1, h2, h3⟩ := trues_ok t e1
        cases i with
        | bl b =>
          refine ⟨?_, by rw [List.map_cons, List.map_cons, h2], fun p hp => ?_⟩
          · cases b with
            | true =>
              show IsL X.K cl F ca (kV k :: truV vs) (ofKey k :: l)
              refine .cons ?_ h1
              cases k with
              | inl i => exact .int i
              | inr s => exact .str s
            | false => exact h1
          · rcases List.mem_cons.mp hp with z | z
            · exact ⟨b, by rw [z]⟩
            · exact h3 p z
    | _ => cases q
theorem val_of_nodup : ∀ {vs : List (Key × V)} {n : Nat} {k : Key} {v : V}, (vs.map (·.1)).Nodup → vs[n]? = some (k, v) → valV vs k = some v
  | [], _, _, _, _, h => by simp at h
  | p :: vs, 0, k, v, _, h => by
    simp at h
    subst h
    exact valV_pos rfl
  | p :: vs, n + 1, k, v, nd, h => by
    have h' : vs[n]? = some (k, v) := by simpa using h
    rw [List.map_cons, List.nodup_cons] at nd
    have hne : ¬ p.1 = k := fun z => nd.1 (by
      rw [z]
      exact List.mem_map.mpr ⟨(k, v), List.mem_of_getElem? h', rfl⟩)
    rw [valV_neg hne]
    exact val_of_nodup nd.2 h'
theorem d_keysT {i j : Nat} {x0 : Expr} {vs : List Nat} (hj : j ∈ vs) (hi : i ∉ vs)
    (hp : PE X x0 (tLockE (tLc (iKeys (tVar i)) (gName j) (fun σ H Q => tDGet (tVar i) (tVar j) σ H fun x H' => ∃ b, x = .bl b ∧ Q b H') (tVar j) vs))) : PEd X cl e W x0 (dKeysT i j) :=
  pe_w hp fun σ H Q ⟨F, ca, s, b, q⟩ => by
    have hij : i ≠ j := fun z => hi (z ▸ hj)
    unfold dKeysT at q
    cases z : s.sl[i]? with
    | none =>
      rw [z] at q
      exact False.elim q
    | some o =>
      rw [z] at q
      cases o with
      | none => exact False.elim q
      | some d =>
        obtain ⟨v, h1, h2⟩ := b.slo i d z
        cases d with
        | rf jc =>
          have q1 : rdK X.K cl e W σ F ca Q (if j < s.sl.length then keysTD s (cellD s.ce[jc]?) else .no) := q
          by_cases hjs : j < s.sl.length
          case neg =>
            rw [if_neg hjs] at q1
            exact False.elim q1
          rw [if_pos hjs] at q1
          cases e1 : cellD s.ce[jc]? with
          | none =>
            rw [e1] at q1
            exact False.elim q1
          | some kvs =>
            rw [e1] at q1
            have q2 : rdK X.K cl e W σ F ca Q (keysTK s kvs (truesK kvs)) := q1
            cases e2 : truesK kvs with
            | none =>
              rw [e2] at q2
              exact False.elim q2
            | some ks =>
              rw [e2] at q2
              have q3 : rdK X.K cl e W σ F ca Q (if kvs.length ≤ 100000 ∧ (kvs.map (·.1)).Nodup then .nl ks s else .no) := q2
              by_cases hz : kvs.length ≤ 100000 ∧ (kvs.map (·.1)).Nodup
              · rw [if_pos hz] at q3
                obtain ⟨a, us, rfl, ha, hF, hH, hK⟩ := dic_ok b h2 e1
                obtain ⟨t1, t2, t3⟩ := trues_ok hK e2
                have nd : (us.map (·.1)).Nodup := by
                  rw [t2]
                  exact hz.2
                have hlen := isK_len hK
                refine ⟨a, .dK us, hH, trivial, fun od => ⟨.ref a, h1, a, od, rfl, .inl ⟨us, upd_same, fun Dl hD => ?_⟩⟩⟩
                have ne : a ≠ Dl := fun w => by
                  subst w
                  rw [upd_same] at hD
                  cases hD
                have hD0 : H Dl = none := by
                  rw [upd_ne (Ne.symm ne)] at hD
                  exact hD
                refine ⟨fun n m H' => m = us.length - n ∧ n ≤ us.length ∧ H' = upd (upd H a (.frz od (.dK us))) Dl (.lst (truV (us.take n))), ⟨us.length, rfl, Nat.zero_le _, rfl⟩, ?_⟩
                rintro n m H' ⟨rfl, hle, rfl⟩
                have hat : upd (upd H a (.frz od (.dK us))) Dl (.lst (truV (us.take n))) a = some (.frz od (.dK us)) := by
                  rw [upd_ne ne, upd_same]
                by_cases hlt : n < us.length
                · refine .inr ⟨⟨hat, hlt⟩, fun H' => H' = upd (upd H a (.frz od (.dK us))) Dl (.lst (truV (us.take (n + 1)))), fun H' r => ⟨us.length - (n + 1), by omega, rfl, hlt, r⟩, fun x H2 y => ?_⟩
                  obtain ⟨rfl, k, w, hk, rfl⟩ := y
                  refine ⟨?_, ?_⟩
                  · refine wipe_ext (by rw [List.length_set, wipe_length]) fun l hl => ?_
                    rw [List.getElem?_set_ne (fun w => hl (by rw [← w]; exact hj))]
                    have gen : ∀ (ρ : L2.St) (ws : List Nat), l ∉ ws → (wipe ρ ws)[l]? = ρ[l]? := by
                      intro ρ ws
                      induction ws with
                      | nil => intro _; rfl
                      | cons w ws ih =>
                        intro hn
                        unfold wipe
                        rw [List.getElem?_set_ne (fun z => hn (by rw [z]; exact List.mem_cons_self))]
                        exact ih fun z => hn (List.mem_cons_of_mem _ z)
                    exact gen σ vs hl
                  · obtain ⟨bb, hb⟩ := t3 (k, w) (List.mem_of_getElem? hk)
                    have hb' : w = .bl bb := hb
                    subst hb'
                    have hjl : j < (wipe σ vs).length := by rw [wipe_length, ← b.len]; exact hjs
                    have hx : ((wipe σ vs).set j (some (kV k)))[j]? = some (some (kV k)) := by
                      rw [List.getElem?_set_self hjl]
                    refine ⟨.ref a, ?_, kV k, hx, a, .bl bb, rfl, .inl ⟨us, k, .inr ⟨od, hat⟩, rfl, (val_of_nodup nd hk).symm⟩, bb, rfl, ?_⟩
                    · rw [List.getElem?_set_ne (Ne.symm hij)]
                      exact wipe_keep hi h1
                    · have et : us.take (n + 1) = us.take n ++ [(k, .bl bb)] := by
                        rw [List.take_add_one, hk] <;> rfl
                      cases bb with
                      | false =>
                        show upd (upd H a (.frz od (.dK us))) Dl (.lst (truV (us.take n))) = upd (upd H a (.frz od (.dK us))) Dl (.lst (truV (us.take (n + 1))))
                        rw [et, truV_app]
                        show _ = upd _ Dl (.lst (truV (us.take n) ++ []))
                        rw [List.append_nil]
                      | true =>
                        refine ⟨kV k, hx, truV (us.take n), upd_same, ?_, ?_⟩
                        · have l1 := truV_len (us.take n)
                          have l2 : (us.take n).length ≤ us.length := by rw [List.length_take]; omega
                          rw [sizeLine_eq]
                          omega
                        · rw [L2.upd_upd, et, truV_app] <;> rfl
                · have en : n = us.length := by omega
                  subst en
                  refine .inl ⟨⟨hat, Nat.le_refl _⟩, hat, ?_⟩
                  have eH : upd (upd (upd H a (.frz od (.dK us))) Dl (.lst (truV (us.take us.length)))) a (.dK us) = upd H Dl (.lst (truV us)) := by
                    funext c
                    by_cases w : c = a
                    · subst w
                      rw [upd_same, upd_ne ne, hH]
                    · rw [upd_ne w]
                      by_cases w2 : c = Dl
                      · subst w2
                        rw [upd_same, upd_same, List.take_length]
                      · rw [upd_ne w2, upd_ne w2, upd_ne w]
                  rw [eH]
                  exact q3 (.ref Dl) F _ ca (b.laid hD0) (Ex.refl F) (Pre.refl ca) ⟨Dl, _, rfl, upd_same, t1, b.notF hD0, b.notca hD0, b.notH0 hD0⟩
              · rw [if_neg hz] at q3
                exact False.elim q3
        | _ => exact False.elim q
end
end Dv
set_option maxRecDepth 100000
set_option maxHeartbeats 4000000
/-! a def by its body and its function -/
namespace Dv
open PySem PySem.Spec PyProof.Rows L2
section
variable {P : Program} {w : World} {K : PySem.W.Frag} {mg : Str → Option Value} {base : Heap} {cl : Cl}
theorem def_ok {x qual : Str} {st : Stmt} {f : Addr} {fd : FuncData} {N ps : List Str} {k n : Nat} {m : Fn} {b : DS} (Fu : L2.Fun K x qual st f fd) (Sc : FnScope N ps (defScope st)) (hn : ps.length = n) (hN : n ≤ N.length) (hd : Does N.length b m)
    (hb : ∀ (cdv : Value) (A : Around) (outer : List Env) (s : Shared) (H : Hp) (E : XK) (e : Ent), Room k (A.deeper (envOfC qual (defScope st) s.heap.objs.size f cdv)) →
      Takes (cxOf (L2.CX P w) P w K mg base N qual (defScope st) f cdv A outer s H E) (fun cls d _ H => E cls d H) →
      PSsd (cxOf (L2.CX P w) P w K mg base N qual (defScope st) f cdv A outer s H E) cl e (fun cls d _ H => E cls d H) (defBody st) b) : FnOk P w K mg base (L2.CX P w) (k + 1) f fd ps (spD K cl n m) := by
  refine Fu.okX Sc (fun vs H Q E h => h.1.trans hn.symm) fun cdv A outer s H vs Q E hr h => ?_
  obtain ⟨e, q⟩ := body_ok (X := cxOf (L2.CX P w) P w K mg base N qual (defScope st) f cdv A outer s H E) hN hd h
  exact ⟨_, hb cdv A outer s H E e hr (takes_of rfl rfl rfl rfl), q⟩
end
end Dv
set_option maxRecDepth 100000
set_option maxHeartbeats 4000000
/-! short words for the terms -/
namespace Dv
open PySem PySem.Spec PyProof.Rows L2

/-! ### a, b = x, y -/
def bindAO : RA → (List D → S → O) → O
  | .ok d s, k => k d s
  | .er x s, _ => .er x s
  | .no, _ => .no
def par2 (i j : Nat) (s : S) : List D → O
  | [a, b] => .nx ⟨(s.sl.set i (some a)).set j (some b), s.ce, s.n0⟩
  | _ => .no
def par3 (i j l : Nat) (s : S) : List D → O
  | [a, b, c] => .nx ⟨((s.sl.set i (some a)).set j (some b)).set l (some c), s.ce, s.n0⟩
  | _ => .no
def sPar2 (i j : Nat) (g : DA) : DS := fun s => bindAO (g s) fun ds s1 => par2 i j s1 ds
def sPar3 (i j l : Nat) (g : DA) : DS := fun s => bindAO (g s) fun ds s1 => par3 i j l s1 ds
section
variable {X : Cx} {cl : Cl} {e : Ent} {W : WX} {a b c o : Expr} {f g h : DE} {ga : DA} {es : List Expr} {pos : Pos} {st : Stmt} {x : Str} {p : Pos}
theorem useS_rdA {F H : Hp} {ca : List Addr} {σ : L2.St} {s : S} {Dn : Ends} {Z : List V → Hp → Prop} {k : List D → S → O} (bb : Bx X cl e F H ca σ s) (q : rdSK X.K cl e W F ca Dn (bindAO (ga s) k))
    (go : ∀ vs ds s1 F1 H1 ca1, Bx X cl e F1 H1 ca1 σ s1 → IsL X.K cl F1 ca1 vs ds → Ex F F1 → Pre ca ca1 → rdSK X.K cl e W F1 ca1 Dn (k ds s1) → Z vs H1) : rdA X.K cl e W ga σ H Z := by
  refine ⟨F, ca, s, bb, ?_⟩
  cases e1 : ga s with
  | ok d s1 =>
    rw [e1] at q
    exact fun v F1 H1 ca1 b1 x p i => go v d s1 F1 H1 ca1 b1 i x p (q.back x p)
  | er xc s1 =>
    rw [e1] at q
    exact fun cls dd F' H' ca' b' xo => q cls dd σ F' H' ca' b' xo
  | no =>
    rw [e1] at q
    exact False.elim q
theorem s_par2 {i j : Nat} (hst : PS X st (tPar i j (rdA X.K cl e W ga))) : PSd X cl e W st (sPar2 i j ga) := ps_w hst fun Dn σ H ⟨F, ca, s, bb, q⟩ => by
  refine useS_rdA bb q fun vs ds s1 F1 H1 ca1 b1 i1 x1 p1 q1 => ?_
  cases i1 with
  | nil => exact False.elim q1
  | cons j1 t =>
    cases t with
    | nil => exact False.elim q1
    | cons j2 t =>
      cases t with
      | nil => exact ⟨_, _, rfl, q1 _ F1 H1 ca1 ((b1.put j1).put j2) (Ex.refl F1) (Pre.refl ca1)⟩
      | cons _ _ => exact False.elim q1
theorem s_par3 {i j l : Nat} (hst : PS X st (tPar3 i j l (rdA X.K cl e W ga))) : PSd X cl e W st (sPar3 i j l ga) := ps_w hst fun Dn σ H ⟨F, ca, s, bb, q⟩ => by
  refine useS_rdA bb q fun vs ds s1 F1 H1 ca1 b1 i1 x1 p1 q1 => ?_
  cases i1 with
  | nil => exact False.elim q1
  | cons j1 t =>
    cases t with
    | nil => exact False.elim q1
    | cons j2 t =>
      cases t with
      | nil => exact False.elim q1
      | cons j3 t =>
        cases t with
        | nil => exact ⟨_, _, _, rfl, q1 _ F1 H1 ca1 (((b1.put j1).put j2).put j3) (Ex.refl F1) (Pre.refl ca1)⟩
        | cons _ _ => exact False.elim q1

/-! ### tests -/
theorem t_pw {tb : DB} (hh : PWd X cl e W a tb) : PTd X cl e W a tb := ⟨fun pins s σ H Q I hw => hh.run _ pins s σ H Q I hw⟩
theorem t_and1 {tb : DB} (hh : PTd X cl e W a tb) : PWd X cl e W (.BoolOp .And [a] pos) tb := pw_and1 hh
theorem t_or1 {tb : DB} (hh : PTd X cl e W a tb) : PWd X cl e W (.BoolOp .Or [a] pos) tb := pw_or1 hh

/-! ### operators -/
theorem e_add (ha : PEd X cl e W a f) (hb : PEd X cl e W b g) : PEd X cl e W (.BinOp a .Add b pos) (dOp pAdd f g) := d_op op_addAll od_add ha hb
theorem e_sub (ha : PEd X cl e W a f) (hb : PEd X cl e W b g) : PEd X cl e W (.BinOp a .Sub b pos) (dOp pSub f g) := d_op op_sub od_sub ha hb
theorem e_mul (ha : PEd X cl e W a f) (hb : PEd X cl e W b g) : PEd X cl e W (.BinOp a .Mult b pos) (dOp pMul f g) := d_op op_mulW od_mul ha hb
theorem e_div (ha : PEd X cl e W a f) (hb : PEd X cl e W b g) : PEd X cl e W (.BinOp a .FloorDiv b pos) (dOp pDiv f g) := d_op op_fdivW od_div ha hb
theorem e_mod (ha : PEd X cl e W a f) (hb : PEd X cl e W b g) : PEd X cl e W (.BinOp a .Mod b pos) (dOp pMod f g) := d_op op_mod od_mod ha hb
theorem e_pow (ha : PEd X cl e W a f) (hb : PEd X cl e W b g) : PEd X cl e W (.BinOp a .Pow b pos) (dOp pPow f g) := d_op op_powW od_pow ha hb
theorem e_neg (ha : PEd X cl e W a f) : PEd X cl e W (.UnaryOp .USub a pos) (dUn pNeg f) := d_un un_neg ud_neg ha
abbrev pLt := pCmp fun i j => decide (i < j)
abbrev pLe := pCmp fun i j => decide (i ≤ j)
abbrev pGt := pCmp fun i j => decide (j < i)
abbrev pGe := pCmp fun i j => decide (j ≤ i)
theorem e_lt (ha : PEd X cl e W a f) (hb : PEd X cl e W b g) : PEd X cl e W (.Compare a [.Lt] [b] pos) (dOp pLt f g) := d_cmp op_lt (od_cmp _) ha hb (nomark _)
theorem e_le (ha : PEd X cl e W a f) (hb : PEd X cl e W b g) : PEd X cl e W (.Compare a [.LtE] [b] pos) (dOp pLe f g) := d_cmp op_le (od_cmp _) ha hb (nomark _)
theorem e_gt (ha : PEd X cl e W a f) (hb : PEd X cl e W b g) : PEd X cl e W (.Compare a [.Gt] [b] pos) (dOp pGt f g) := d_cmp op_gt (od_cmp _) ha hb (nomark _)
theorem e_ge (ha : PEd X cl e W a f) (hb : PEd X cl e W b g) : PEd X cl e W (.Compare a [.GtE] [b] pos) (dOp pGe f g) := d_cmp op_ge (od_cmp _) ha hb (nomark _)
theorem c_lt (ha : PEd X cl e W a f) (hb : PEd X cl e W b g) : PTd X cl e W (.Compare a [.Lt] [b] pos) (bTest (dOp pLt f g)) := t_cmp op_lt (od_cmp _) ha hb (nomark _)
theorem c_le (ha : PEd X cl e W a f) (hb : PEd X cl e W b g) : PTd X cl e W (.Compare a [.LtE] [b] pos) (bTest (dOp pLe f g)) := t_cmp op_le (od_cmp _) ha hb (nomark _)
theorem c_gt (ha : PEd X cl e W a f) (hb : PEd X cl e W b g) : PTd X cl e W (.Compare a [.Gt] [b] pos) (bTest (dOp pGt f g)) := t_cmp op_gt (od_cmp _) ha hb (nomark _)
theorem c_ge (ha : PEd X cl e W a f) (hb : PEd X cl e W b g) : PTd X cl e W (.Compare a [.GtE] [b] pos) (bTest (dOp pGe f g)) := t_cmp op_ge (od_cmp _) ha hb (nomark _)
theorem e_eq (hu : X.A.units + 64 < cLine) (ha : PEd X cl e W a f) (hb : PEd X cl e W b g) : PEd X cl e W (.Compare a [.Eq] [b] pos) (dOp pEq f g) := d_cmp (op_eqD hu) od_eq ha hb (nomark _)
theorem c_eq (hu : X.A.units + 64 < cLine) (ha : PEd X cl e W a f) (hb : PEd X cl e W b g) : PTd X cl e W (.Compare a [.Eq] [b] pos) (bTest (dOp pEq f g)) := t_cmp (op_eqD hu) od_eq ha hb (nomark _)
theorem e_ne (hu : X.A.units + 64 < cLine) (ha : PEd X cl e W a f) (hb : PEd X cl e W b g) : PEd X cl e W (.Compare a [.NotEq] [b] pos) (dOp pNe f g) := d_cmp (op_neD hu) od_ne ha hb (nomark _)
theorem c_ne (hu : X.A.units + 64 < cLine) (ha : PEd X cl e W a f) (hb : PEd X cl e W b g) : PTd X cl e W (.Compare a [.NotEq] [b] pos) (bTest (dOp pNe f g)) := t_cmp (op_neD hu) od_ne ha hb (nomark _)

/-! ### displays, built-ins -/
theorem e_lst (ha : PAd X cl e W es ga) : PEd X cl e W (.List es pos) (dLst ga) := d_lst ha (pe_lst ha)
theorem e_tup {kx} (ha : PAd X cl e W es ga) : PEd X cl e W (.Tuple es kx pos) (dTup ga) := d_tup ha (pe_tup ha)
section
variable {hst : starEach (a :: es) X.env = (false, eval a X.env) :: starEach es X.env} {hpl : (backTo pos (starEach es X.env)).any (·.1) = false}
theorem e_len (hg : Gl X "len") (hz : X.mg "len" = none) (ha : PAd X cl e W (a :: es) ga) (hst : starEach (a :: es) X.env = (false, eval a X.env) :: starEach es X.env := by rfl) (hpl : (backTo pos (starEach es X.env)).any (·.1) = false := by rfl) : PEd X cl e W (.Call (.Name "len" p) (a :: es) [] pos) (dBi (b1 lenD) ga) :=
  pe_w (pe_callB call_lenAll hg hz PySem.boot_len ha (by decide) (by decide) hst hpl) fun _ _ _ q => rd_bi bd_len q
theorem e_abs (hg : Gl X "abs") (hz : X.mg "abs" = none) (ha : PAd X cl e W (a :: es) ga) (hst : starEach (a :: es) X.env = (false, eval a X.env) :: starEach es X.env := by rfl) (hpl : (backTo pos (starEach es X.env)).any (·.1) = false := by rfl) : PEd X cl e W (.Call (.Name "abs" p) (a :: es) [] pos) (dBi (b1 absD) ga) :=
  pe_w (pe_callB call_abs hg hz (by decide +kernel) ha (by decide) (by decide) hst hpl) fun _ _ _ q => rd_bi bd_abs q
theorem e_max (hc : X.calm = true) (hg : Gl X "max") (hz : X.mg "max" = none) (ha : PAd X cl e W (a :: es) ga) (hst : starEach (a :: es) X.env = (false, eval a X.env) :: starEach es X.env := by rfl) (hpl : (backTo pos (starEach es X.env)).any (·.1) = false := by rfl) : PEd X cl e W (.Call (.Name "max" p) (a :: es) [] pos) (dBi (b2 maxD) ga) :=
  pe_w (pe_callB (call_max2 hc) hg hz (by decide +kernel) ha (by decide) (by decide) hst hpl) fun _ _ _ q => rd_bi bd_max q
theorem e_min (hc : X.calm = true) (hg : Gl X "min") (hz : X.mg "min" = none) (ha : PAd X cl e W (a :: es) ga) (hst : starEach (a :: es) X.env = (false, eval a X.env) :: starEach es X.env := by rfl) (hpl : (backTo pos (starEach es X.env)).any (·.1) = false := by rfl) : PEd X cl e W (.Call (.Name "min" p) (a :: es) [] pos) (dBi (b2 minD) ga) :=
  pe_w (pe_callB (call_min2 hc) hg hz (by decide +kernel) ha (by decide) (by decide) hst hpl) fun _ _ _ q => rd_bi bd_min q
theorem e_int (hg : Gl X "int") (hz : X.mg "int" = none) (ha : PAd X cl e W (a :: es) ga) (hst : starEach (a :: es) X.env = (false, eval a X.env) :: starEach es X.env := by rfl) (hpl : (backTo pos (starEach es X.env)).any (·.1) = false := by rfl) : PEd X cl e W (.Call (.Name "int" p) (a :: es) [] pos) (dBi (b1 intD) ga) :=
  pe_w (pe_callTy call_int1 hg hz (by decide +kernel) ha (by decide) (by decide) hst hpl) fun _ _ _ q => rd_bi bd_int q
theorem e_list (hg : Gl X "list") (hz : X.mg "list" = none) (ha : PAd X cl e W (a :: es) ga) (hst : starEach (a :: es) X.env = (false, eval a X.env) :: starEach es X.env := by rfl) (hpl : (backTo pos (starEach es X.env)).any (·.1) = false := by rfl) : PEd X cl e W (.Call (.Name "list" p) (a :: es) [] pos) (dBi (b1 listD) ga) :=
  pe_w (pe_callTy call_list_of hg hz (by decide +kernel) ha (by decide) (by decide) hst hpl) fun _ _ _ q => rd_bi bd_list q
theorem e_sorted (hg : Gl X "sorted") (hz : X.mg "sorted" = none) (ha : PAd X cl e W (a :: es) ga) (hst : starEach (a :: es) X.env = (false, eval a X.env) :: starEach es X.env := by rfl) (hpl : (backTo pos (starEach es X.env)).any (·.1) = false := by rfl) : PEd X cl e W (.Call (.Name "sorted" p) (a :: es) [] pos) (dBi (b1 sortedD) ga) :=
  pe_w (pe_callB cr_sortedI hg hz (by decide +kernel) ha (by decide) (by decide) hst hpl) fun _ _ _ q => rd_bi bd_sorted q
theorem e_all (hc : X.calm = true) (hg : Gl X "all") (hz : X.mg "all" = none) (ha : PAd X cl e W (a :: es) ga) (hst : starEach (a :: es) X.env = (false, eval a X.env) :: starEach es X.env := by rfl) (hpl : (backTo pos (starEach es X.env)).any (·.1) = false := by rfl) : PEd X cl e W (.Call (.Name "all" p) (a :: es) [] pos) (dBi (b1 allD) ga) :=
  pe_w (pe_callB (cr_all hc) hg hz (by decide +kernel) ha (by decide) (by decide) hst hpl) fun _ _ _ q => rd_bi bd_all q
theorem e_gcd (hg : Gl X x) (hz : X.mg x = some (.builtin "math.gcd")) (ha : PAd X cl e W (a :: es) ga) (hdb : (x == ("__debug__" : Str)) = false := by decide) (hst : starEach (a :: es) X.env = (false, eval a X.env) :: starEach es X.env := by rfl) (hpl : (backTo pos (starEach es X.env)).any (·.1) = false := by rfl) : PEd X cl e W (.Call (.Name x p) (a :: es) [] pos) (dBi (b2 gcdD) ga) :=
  pe_w (pe_callBfun cr_gcd hg hz ha hdb hst hpl) fun _ _ _ q => rd_bi bd_gcd q
theorem e_lcm (hg : Gl X x) (hz : X.mg x = some (.builtin "math.lcm")) (ha : PAd X cl e W (a :: es) ga) (hdb : (x == ("__debug__" : Str)) = false := by decide) (hst : starEach (a :: es) X.env = (false, eval a X.env) :: starEach es X.env := by rfl) (hpl : (backTo pos (starEach es X.env)).any (·.1) = false := by rfl) : PEd X cl e W (.Call (.Name x p) (a :: es) [] pos) (dBi (b2 lcmD) ga) :=
  pe_w (pe_callBfun cr_lcm hg hz ha hdb hst hpl) fun _ _ _ q => rd_bi bd_lcm q
end
/-! ### isinstance -/
def okBt : TyT → Bool
  | .own _ => false
  | _ => true
def ansInt : TyT → Bool
  | .int => true
  | .bl => true
  | _ => false
def ansBl : TyT → Bool
  | .bl => true
  | _ => false
def ansLst : TyT → Bool
  | .lst => true
  | _ => false
def okOwn (c : Nat) : TyT → Bool
  | .own k => k == c
  | _ => false
theorem kit_int {K : PySem.W.Frag} : ∀ t, okBt t = true → PySem.W.kitOne K (valT cl t) (.type "int") = some (ansInt t)
  | .non, _ => by rfl
  | .bl, _ => by rfl
  | .int, _ => by rfl
  | .str, _ => by rfl
  | .lst, _ => by rfl
  | .tup, _ => by rfl
  | .own c, h => by cases h
theorem kit_bl {K : PySem.W.Frag} : ∀ t, okBt t = true → PySem.W.kitOne K (valT cl t) (.type "bool") = some (ansBl t)
  | .non, _ => by rfl
  | .bl, _ => by rfl
  | .int, _ => by rfl
  | .str, _ => by rfl
  | .lst, _ => by rfl
  | .tup, _ => by rfl
  | .own c, h => by cases h
theorem kit_lst {K : PySem.W.Frag} : ∀ t, okBt t = true → PySem.W.kitOne K (valT cl t) (.type "list") = some (ansLst t)
  | .non, _ => by rfl
  | .bl, _ => by rfl
  | .int, _ => by rfl
  | .str, _ => by rfl
  | .lst, _ => by rfl
  | .tup, _ => by rfl
  | .own c, h => by cases h
theorem kit_own {K : PySem.W.Frag} (c : Nat) : ∀ t, okOwn c t = true → PySem.W.kitOne K (valT cl t) (.ref (cl c)) = some ((fun _ => true) t)
  | .own k, h => by
    have hk : k = c := by simpa [okOwn] using h
    subst hk
    unfold PySem.W.kitOne
    rw [if_pos (by simp [valT])]
  | .non, h => by cases h
  | .bl, h => by cases h
  | .int, h => by cases h
  | .str, h => by cases h
  | .lst, h => by cases h
  | .tup, h => by cases h
end
end Dv
set_option maxRecDepth 100000
set_option maxHeartbeats 4000000
namespace Dv
open PySem PySem.Spec PyProof.Rows L2
abbrev dBin (c0 n : Nat) (m : Fn) (f g : DE) : DE := dEqO c0 n m f g
section
variable {X : Cx} {cl : Cl} {e : Ent} {W : WX} {a b c o : Expr} {f g h : DE} {ga : DA} {es : List Expr} {pos : Pos} {st : Stmt} {x : Str} {p : Pos}
theorem e_gc {v : V} (hg : Gl X x) (h : ∃ u, X.mg x = some u ∧ RelV v u) (hd : (x == ("__debug__" : Str)) = false := by decide) : PE X (.Name x p) (tC v) := by
  obtain ⟨u, h1, h2⟩ := h
  exact pe_glob hg h1 h2 hd
/-- a test by a comparison of one's own -/
theorem c_own (hh : PC X .Eq a b (rd X.K cl e W f)) : PTd X cl e W (.Compare a [.Eq] [b] pos) (bTest f) := pt_w (pt_cmp hh) fun _ _ _ q => rd_test q
theorem e_in (ha : PEd X cl e W a f) (hb : PEd X cl e W b g) (hm : behindInMarks .In b = false := by rfl) : PEd X cl e W (.Compare a [.In] [b] pos) (dOp (pIn false) f g) := d_cmp op_in_seq (od_in false) ha hb hm
theorem c_in (ha : PEd X cl e W a f) (hb : PEd X cl e W b g) (hm : behindInMarks .In b = false := by rfl) : PTd X cl e W (.Compare a [.In] [b] pos) (bTest (dOp (pIn false) f g)) := t_cmp op_in_seq (od_in false) ha hb hm
theorem e_notin (ha : PEd X cl e W a f) (hb : PEd X cl e W b g) (hm : behindInMarks .NotIn b = false := by rfl) : PEd X cl e W (.Compare a [.NotIn] [b] pos) (dOp (pIn true) f g) := d_cmp op_notIn_seq (od_in true) ha hb hm
theorem c_notin (ha : PEd X cl e W a f) (hb : PEd X cl e W b g) (hm : behindInMarks .NotIn b = false := by rfl) : PTd X cl e W (.Compare a [.NotIn] [b] pos) (bTest (dOp (pIn true) f g)) := t_cmp op_notIn_seq (od_in true) ha hb hm
end
end Dv
namespace Dv
open PySem PySem.Spec PyProof.Rows L2
section
variable {X : Cx} {cl : Cl} {e : Ent} {W : WX} {a b c o : Expr} {f g h : DE} {ga : DA} {es : List Expr} {pos : Pos} {st : Stmt} {x : Str} {p : Pos} {c0 n k : Nat} {m : Fn} {fa : Addr} {fd : FuncData} {ps : List Str}
/-- a def's run by its promise, within the call of a built-in -/
theorem run_fnIn {pins : List (Addr × Obj)} {σ : L2.St} {H : Hp} {s : Shared} {Q : VK} {us : List Value} {vs : List V} {sp : Sp} {E : L2.St → XK} (Fo : FnOk X.prog X.w X.K X.mg X.base (L2.CX X.prog X.w) k fa fd ps sp) (hr : Room (k + 1) X.A) (hb : Binds X.K fd ps []) (hx : PassesAt (L2.CX X.prog X.w) X σ (E σ))
    (I : Inv X pins σ H s) (r : Vals vs us) (h : sp vs H Q (E σ)) : wpAny (model X.prog X.w) X.A.in1 (call (.ref fa) us) (EP X pins σ Q) X.xe s := by
  have hl : (us ++ []).length = ps.length := (congrArg List.length (List.append_nil us)).trans (r.length.symm.trans (Fo.len _ _ _ _ h))
  have b := hb s us I.kIn hl
  rw [List.append_nil] at b
  refine wpAny_call (codeAny_mono (Fo.run X.A.in1 X.stack s H ⟨us, []⟩ us vs Q (E σ) hr.in1 I.env0.in1 b r h) fun r s' hq => ?_)
  cases r with
  | ok fl => cases fl with
    | ret u => exact I.after hq
    | _ => exact False.elim hq
  | error er => exact hx pins H s er s' I hq
/-- len(o), o an instance of the text's class -/
def lenR : R → R
  | .ok (.int i) s => if 0 ≤ i ∧ i < 1000000 then .ok (.int i) s else .no
  | .er x s => .er x s
  | _ => .no
def dLenO (c0 : Nat) (m : Fn) (f : DE) : DE := fun s => bindR (f s) fun d s1 => lenR (ownK c0 1 m s1 [d] (instF c0 s1.ce d))
theorem lenR_w {F : Hp} {ca : List Addr} {σ : L2.St} {Q : VK} {r : R} (q : rdK X.K cl e W σ F ca Q (lenR r)) : rdK X.K cl e W σ F ca (fun v H => ∃ i : Int, v = .int i ∧ 0 ≤ i ∧ i < 1000000 ∧ Q v H) r := by
  cases r with
  | ok d s =>
    cases d with
    | int i =>
      have q' : rdK X.K cl e W σ F ca Q (if 0 ≤ i ∧ i < 1000000 then .ok (.int i) s else .no) := q
      by_cases hz : 0 ≤ i ∧ i < 1000000
      · rw [if_pos hz] at q'
        intro v F' H' ca' b x p iv
        have z := q' v F' H' ca' b x p iv
        cases iv
        exact ⟨i, rfl, hz.1, hz.2, z⟩
      · rw [if_neg hz] at q'
        exact False.elim q'
    | _ => exact False.elim q
  | er xc s => exact q
  | _ => exact False.elim q
theorem e_lenO (Fo : FnOk X.prog X.w X.K X.mg X.base (L2.CX X.prog X.w) k fa fd ps (spD X.K cl 1 m)) (hr : Room (k + 1) X.A) (hb : Binds X.K fd ps []) (tk : Takes X W)
    (hs : PySem.W.findIn X.K (.ref (cl c0)) "__len__" = some (some (.ref fa))) (hf : PySem.W.isFn X.K (.ref fa) = true) (hg : Gl X "len") (hz : X.mg "len" = none)
    (ha : PEd X cl e W a f) (hst : starEach [a] X.env = (false, eval a X.env) :: starEach [] X.env := by rfl) (hpl : (backTo pos (starEach [] X.env)).any (·.1) = false := by rfl) :
    PEd X cl e W (.Call (.Name "len" p) [a] [] pos) (dLenO c0 m f) := by
  refine ⟨fun pins s σ H Q I h => ?_⟩
  obtain ⟨F, ca, s0, b0, q⟩ := h
  refine Call_ (ld_blt I hg hz PySem.boot_len ?_)
  refine PyProof.Rows.callWith_builtin1 (PyProof.Rows.args_cons (thn (ha.run pins s σ H _ I (use_rd b0 q fun v d s1 F1 H1 ca1 b1 i1 x1 p1 q1 => (⟨d, s1, F1, ca1, b1, i1, q1⟩ : ∃ d s1 F1 ca1, Bx X cl e F1 H1 ca1 σ s1 ∧ Is X.K cl F1 ca1 v d ∧ rdK X.K cl e W σ F1 ca1 Q (lenR (ownK c0 1 m s1 [d] (instF c0 s1.ce d)))))) fun u s1 ⟨v, H1, I1, r1, d, t1, F1, ca1, b1, i1, q1⟩ => PyProof.Rows.args_nil ?_) hst) hst hpl
  obtain ⟨hsp, fs, e2⟩ := own_sp b1 (.one i1) (lenR_w q1)
  obtain ⟨y, dx, vs, rfl, hH, hi⟩ := inst_ok b1 i1 e2
  obtain rfl : u = Value.ref y := r1
  obtain ⟨mA, J, _⟩ := ins_get I1.hok hH
  obtain ⟨od, J, _⟩ := J.look
  obtain ⟨mm, hF⟩ := I1.fr
  refine PySem.W.len_K hF I1.ok.mod.kin J hs hf (thn (run_fnIn (E := WE W) (vs := [.ref y]) Fo hr hb (passAt tk σ) I1 (.cons rfl .nil) hsp) fun u3 s3 z => ?_)
  obtain ⟨v3, H3, I3, r3, i, rfl, h0, h1, q3⟩ := z
  obtain ⟨t3, rfl⟩ := r3
  exact ⟨⟨h0, by omega⟩, .int i, H3, I3.tok _, ⟨_, rfl⟩, q3⟩
end
end Dv
set_option maxRecDepth 100000
set_option maxHeartbeats 4000000
/-! sorted(set(xs)), xs a list of fewer than 64 ints -/
namespace Dv
open PySem PySem.Spec PyProof.Rows L2
/-- a number into an ascending list, once -/
def insS (k : Int) : List Int → List Int
  | [] => [k]
  | a :: r => if k < a then k :: a :: r else if k = a then a :: r else a :: insS k r
def sset : List Int → List Int
  | [] => []
  | a :: r => insS a (sset r)
theorem insS_mem {k x : Int} : ∀ {l : List Int}, x ∈ insS k l ↔ x = k ∨ x ∈ l
  | [] => by simp [insS]
  | a :: r => by
    unfold insS
    by_cases h1 : k < a
    · rw [if_pos h1]
      simp
    · rw [if_neg h1]
      by_cases h2 : k = a
      · rw [if_pos h2]
        subst h2
        simp
      · rw [if_neg h2, List.mem_cons, insS_mem (l := r), List.mem_cons]
        constructor
        · rintro (h | h | h)
          · exact .inr (.inl h)
          · exact .inl h
          · exact .inr (.inr h)
        · rintro (h | h | h)
          · exact .inr (.inl h)
          · exact .inl h
          · exact .inr (.inr h)
theorem insS_asc {k : Int} : ∀ {l : List Int}, l.Pairwise (· < ·) → (insS k l).Pairwise (· < ·)
  | [], _ => List.pairwise_singleton _ _
  | a :: r, h => by
    obtain ⟨h1, h2⟩ := List.pairwise_cons.mp h
    unfold insS
    by_cases z1 : k < a
    · rw [if_pos z1]
      refine List.pairwise_cons.mpr ⟨fun x hx => ?_, h⟩
      rcases List.mem_cons.mp hx with e | e
      · omega
      · have := h1 x e
        omega
    · rw [if_neg z1]
      by_cases z2 : k = a
      · rw [if_pos z2]
        exact h
      · rw [if_neg z2]
        refine List.pairwise_cons.mpr ⟨fun x hx => ?_, insS_asc h2⟩
        rcases insS_mem.mp hx with e | e
        · omega
        · exact h1 x e
theorem sset_mem {x : Int} : ∀ {l : List Int}, x ∈ sset l ↔ x ∈ l
  | [] => Iff.rfl
  | a :: r => by
    unfold sset
    rw [insS_mem, sset_mem (l := r), List.mem_cons]
theorem sset_asc : ∀ l : List Int, (sset l).Pairwise (· < ·)
  | [] => .nil
  | a :: r => insS_asc (sset_asc r)
/-- two ascending lists of the same numbers are one -/
theorem asc_one : ∀ {l m : List Int}, l.Pairwise (· < ·) → m.Pairwise (· < ·) → (∀ x, x ∈ l ↔ x ∈ m) → l = m
  | [], [], _, _, _ => rfl
  | [], b :: m, _, _, h => absurd ((h b).mpr List.mem_cons_self) (by simp)
  | a :: l, [], _, _, h => absurd ((h a).mp List.mem_cons_self) (by simp)
  | a :: l, b :: m, h1, h2, h => by
    obtain ⟨p1, p2⟩ := List.pairwise_cons.mp h1
    obtain ⟨q1, q2⟩ := List.pairwise_cons.mp h2
    have e : a = b := by
      rcases List.mem_cons.mp ((h a).mp List.mem_cons_self) with z | z
      · exact z
      · rcases List.mem_cons.mp ((h b).mpr List.mem_cons_self) with y | y
        · exact y.symm
        · have := q1 a z
          have := p1 b y
          omega
    subst e
    rw [asc_one p2 q2 fun x => ?_]
    constructor
    · intro hx
      rcases List.mem_cons.mp ((h x).mp (List.mem_cons_of_mem _ hx)) with z | z
      · have := p1 x hx
        omega
      · exact z
    · intro hx
      rcases List.mem_cons.mp ((h x).mpr (List.mem_cons_of_mem _ hx)) with z | z
      · have := q1 x hx
        omega
      · exact z

section
variable {P : Program} {w : World} {A : Around} {E : Value → Shared → Prop} {s : Shared}
/-- the new set -/
abbrev nuS (w : World) : Obj := { cls := .type "set", dict := none, data := .set #[] 0 (.fresh 0 0 (!w.params.followText "set-order")) }
abbrev nuH (w : World) (h : Heap) : Heap := h.push (nuS w)
/-- what the call leaves -/
def LeftS (w : World) (s : Shared) (ns : List Int) (h' : Heap) (c : Nat) : Prop := SetR w h' s.heap.objs.size (fun j => decide (j ∈ ns)) c ∧ c ≤ ns.length ∧ ∀ b o, s.heap.get? b = some o → h'.get? b = some o
set_option maxRecDepth 100000 in
set_option maxHeartbeats 3200000 in
theorem call_setL {l : Addr} {its : Array Value} (ns : List Int) {Q : Value → Shared → Prop} (hh : A.handled = none) (hl : s.heap.IsList l its) (hi : IntsAre its.toList ns) (hb : ns.length + 1 < scanBound)
    (fin : ∀ (h' : Heap) (tk c : Nat), LeftS w s ns h' c → Q (.ref s.heap.objs.size) { s with heap := h', toks := tk }) : wpAny (model P w) A (call (.type "set") [.ref l]) Q E s := by
  have sz : its.size = ns.length := by
    have z := IntsAre.length hi
    rwa [Array.length_toList] at z
  obtain ⟨mc, mt, hmro⟩ := F.called_set.mro
  have hmk := F.called_set.made
  have hsb := F.called_set.sub
  refine wpAny_call (codeAny_of_tree (show wpAny _ _ (callAny (.type "set") _) _ _ _ from wpAny_pure ⟨Code.quiet_builtin _ (by decide +kernel), codeAny_builtin F.entry_type_call ?_⟩))
  rw [Around.under_plain (weight_type_call_type "set" [.ref l] []) rfl]
  have n1 := F.called_set.notType
  have n2 := F.called_set.canCreate
  have n3 := F.typeCall_set_1 (.ref l)
  repeat (any_goals (first | assumption | wp_step))
  refine codeAny_mono (code_set_led1 (.ref l) (E := E) (Q₁ := fun u t => u = .ref s.heap.objs.size ∧ t = { s with heap := nuH w s.heap }) ⟨rfl, rfl⟩) fun r t hr => ?_
  cases r with
  | error e => exact hr
  | ok fl => cases fl with
    | ret u =>
      obtain ⟨rfl, rfl⟩ := hr
      have gS : (nuH w s.heap).get? s.heap.objs.size = some (nuS w) := Heap.get?_push_size _ rfl
      have tS : Shared.TypeIs { s with heap := nuH w s.heap } (.ref s.heap.objs.size) "set" := ⟨_, gS, rfl⟩
      have i1 := F.called_set.init.lookup
      have i2 := F.called_set.init.bind (.ref s.heap.objs.size)
      repeat (any_goals (first | assumption | wp_step))
      refine codeAny_mono (codeAny_call_builtin (R := wants (fun r t => r = .none ∧ ∃ h' tk c, t = { s with heap := h', toks := tk } ∧ LeftS w s ns h' c) E) F.called_set.init.plain F.entry_set_init (check_set_init_1 tS ?_)) fun r t hr => ?_
      · obtain ⟨⟨oc, od, oo, osl⟩, ho, hc, nl, hd⟩ := hl
        simp only at hc hd
        subst hc
        subst hd
        have ho' : (nuH w s.heap).get? l = some { cls := .type "list", dict := od, data := .seq its nl, slots := osl } := Heap.get?_push_of_some _ ho
        have c1 := F.sub_list_set
        have c2 := F.sub_list_frozenset
        have c3 : (Value.type "list" == Value.type "dict") = false := by decide
        have L1 : (nuH w s.heap).IsList l its := ⟨_, ho', rfl, nl, rfl⟩
        unfold Builtin.«set.__init__» noKeywords Builtin.Frozenset.updateFrom
        generalize hPI : pyIter = PI
        wp_walk
        subst hPI
        refine wpAny_pyIter_list L1 (wpAny_bind (wpAny_runValue ?_))
        have lt : l < s.heap.objs.size := Heap.lt_size ho
        have h3 : A.in1.in1.in1.handled = none := by simp [hh]
        have e1 : (nuH w s.heap).objs.size = s.heap.objs.size + 1 := Heap.size_push ..
        have ne : l ≠ (nuH w s.heap).objs.size := by
          rw [e1]
          exact Nat.ne_of_lt (Nat.lt_succ_of_lt lt)
        have nf : s.heap.objs.size ∉ [(nuH w s.heap).objs.size, l] := by
          rw [e1]
          intro hm
          rcases List.mem_cons.mp hm with z | z
          · exact absurd z (Nat.ne_of_lt (Nat.lt_succ_self _))
          · exact absurd (List.mem_singleton.mp z) (Nat.ne_of_gt lt)
        have hv : ∀ (i : Nat) (v : Value), its[i]? = some v → ∃ k t, ns[i]? = some k ∧ v = .int k t := fun i v hv => by
          have hlt : i < ns.length := by
            rw [← sz]
            exact (Array.getElem?_eq_some_iff.mp hv).1
          obtain ⟨t, e⟩ := PyProof.Rows.IntsAre.int_at hi i v (by rw [Array.getElem?_toList]; exact hv)
          refine ⟨ns[i], t, List.getElem?_eq_getElem hlt, ?_⟩
          rw [e, List.getD_eq_getElem?_getD, List.getElem?_eq_getElem hlt] <;> rfl
        refine set_update_ints ((Walks.list h3 _ l ne its).toS) s.heap.objs.size nf ns sz hb hv (its.size - 0) 0 _ (by omega) (Nat.zero_le _) ⟨⟨_, Heap.get?_push_size _ rfl, rfl, rfl⟩, L1.push _⟩ ⟨0, Nat.le_refl 0, setR_new_at (Heap.get?_push_of_some _ gS)⟩ fun t c hm hc2 hS2 => ?_
        obtain ⟨h', g2, d2, tk, os2⟩ := t
        obtain rfl : g2 = s.gens := hm.gens
        obtain rfl : d2 = s.drawn := hm.drawn
        obtain rfl : os2 = s.os := hm.os
        rw [sz] at hc2
        refine wpAny_pure (show wpAny _ _ (ret Value.none) _ _ _ from wpAny_pure ⟨rfl, h', tk, c, rfl, hS2, hc2, fun b o e => ?_⟩)
        have bl : b < s.heap.objs.size := Heap.lt_size e
        refine hm.heap b o ?_ (Heap.get?_push_of_some _ (Heap.get?_push_of_some _ e))
        rw [e1]
        intro hm2
        rcases List.mem_cons.mp hm2 with z | z
        · exact absurd z (Nat.ne_of_lt bl)
        · exact absurd (List.mem_singleton.mp z) (Nat.ne_of_lt (Nat.lt_succ_of_lt bl))
      · cases r with
        | error e => exact hr
        | ok fl => cases fl with
          | ret v =>
            obtain ⟨rfl, h', tk, c, rfl, hL⟩ := hr
            repeat (any_goals (first | assumption | wp_step))
            exact fin _ _ _ hL
          | _ => exact hr.elim
    | _ => exact hr.elim
end
def sortSetK (s : S) : Option (List D) → R
  | some xs => match intsD xs with
    | some ns => if ns.length < 64 then .nl ((sset ns).map .int) s else .no
    | none => .no
  | none => .no
def dSortSet (f : DE) : DE := fun s => bindR (f s) fun d s1 => sortSetK s1 (look s1.ce d)
section
variable {X : Cx} {cl : Cl} {e : Ent} {W : WX} {a : Expr} {f : DE} {p p2 q0 pos : Pos}
theorem e_sortset (hc : X.calm = true) (hg : Gl X "sorted") (hz : X.mg "sorted" = none) (hg2 : Gl X "set") (hz2 : X.mg "set" = none) (ha : PEd X cl e W a f)
    (na : starEach [a] X.env = (false, eval a X.env) :: starEach [] X.env := by rfl)
    (nb : starEach [(Expr.Call (.Name "set" p2) [a] [] q0)] X.env = (false, eval (.Call (.Name "set" p2) [a] [] q0) X.env) :: starEach [] X.env := by rfl) :
    PEd X cl e W (.Call (.Name "sorted" p) [.Call (.Name "set" p2) [a] [] q0] [] pos) (dSortSet f) := by
  refine ⟨fun pins s σ H Q I h => ?_⟩
  obtain ⟨F, ca, s0, b0, q⟩ := h
  refine Call_ (ld_blt I hg hz (by decide +kernel : bootBuiltins "sorted" = some (.builtin "sorted")) ?_)
  refine PyProof.Rows.callWith_builtin1 (PyProof.Rows.args_cons ?_ nb) nb rfl
  refine Call_ (ld_blt I hg2 hz2 (by decide +kernel : bootBuiltins "set" = some (.type "set")) ?_)
  refine PyProof.Rows.callWith_type1 (PyProof.Rows.args_cons (thn (ha.run pins s σ H _ I (use_rd b0 q fun v d s1 F1 H1 ca1 b1 i1 x1 p1 q1 => (⟨d, s1, F1, ca1, b1, i1, q1⟩ : ∃ d s1 F1 ca1, Bx X cl e F1 H1 ca1 σ s1 ∧ Is X.K cl F1 ca1 v d ∧ rdK X.K cl e W σ F1 ca1 Q (sortSetK s1 (look s1.ce d))))) fun u s1 ⟨v, H1, I1, r1, d, t1, F1, ca1, b1, i1, q1⟩ => PyProof.Rows.args_nil ?_) na) na rfl
  cases e1 : look t1.ce d with
  | none =>
    rw [e1] at q1
    exact False.elim q1
  | some xs =>
    rw [e1] at q1
    have q2 : rdK X.K cl e W σ F1 ca1 Q (match intsD xs with
      | some ns => if ns.length < 64 then .nl ((sset ns).map .int) t1 else .no
      | none => .no) := q1
    cases e2 : intsD xs with
    | none =>
      rw [e2] at q2
      exact False.elim q2
    | some ns =>
      rw [e2] at q2
      have q3 : rdK X.K cl e W σ F1 ca1 Q (if ns.length < 64 then .nl ((sset ns).map .int) t1 else .no) := q2
      by_cases h64 : ns.length < 64
      · rw [if_pos h64] at q3
        obtain ⟨y, vs, rfl, hq, hi⟩ := look_ok b1 i1 e1
        rw [intsD_eq e2] at hi
        have ev := of_ints hi
        subst ev
        cases r1
        obtain ⟨its, r, pl, hzz⟩ := I1.list hq
        refine call_setL ns (I1.ok.hd hc) pl.isList (by simpa using intsAre_of r) (by unfold scanBound; omega) fun h' tk c hL => PyProof.Rows.args_nil ?_
        obtain ⟨hR, hc2, hk⟩ := hL
        have hn : H1 s1.heap.objs.size = none := I1.hok.fresh (Nat.le_refl _)
        have I2 : Inv X pins σ (upd H1 s1.heap.objs.size (SetO X.w s1.heap.objs.size (fun j => decide (j ∈ ns)) c)) { s1 with heap := h', toks := tk } := I1.laid (t' := tk) (fun b u e => hk b u e) (Nat.le_refl _) (setO_new hR)
        refine cr_sortedSet hc pins _ σ _ [V.ref s1.heap.objs.size] [Value.ref s1.heap.objs.size] Q I2 (.cons rfl .nil) ⟨_, _, c, rfl, upd_same, by omega, fun ms z hs hm hl hz0 => ?_⟩
        have em : ms = sset ns := asc_one hs (sset_asc ns) fun x => by
          rw [hm x, sset_mem, decide_eq_true_iff]
        subst em
        have bb := b1.laid (o := SetO X.w s1.heap.objs.size (fun j => decide (j ∈ ns)) c) hn
        exact q3 (.ref z) F1 _ ca1 (bb.laid hz0) (Ex.refl F1) (Pre.refl ca1) ⟨z, _, rfl, upd_same, isL_ints _, bb.notF hz0, bb.notca hz0, bb.notH0 hz0⟩
      · rw [if_neg h64] at q3
        exact False.elim q3
end
end Dv
set_option maxRecDepth 100000
set_option maxHeartbeats 4000000
/-! reckoning with the data terms: comprehensions and loops over known items -/
namespace Dv
open PySem PySem.Spec PyProof.Rows L2

/-- a comprehension whose turns leave the cells as they are -/
theorem compL_pure {gd : S → Bool} {t : DT} {vs : List Nat} {c : DB} {f : DE} {s : S} (p : D → Bool) (g : D → D) (hg : gd s = true) :
    ∀ (xs acc : List D), (∀ d ∈ xs, ∃ s1, t d (inS vs s) = some s1 ∧ ∃ s2, c s1 = .ok (p d) s2 ∧ s2.ce = s.ce ∧ (p d = true → ∃ s3, f s2 = .ok (g d) s3 ∧ s3.ce = s.ce)) → acc.length + xs.length ≤ 100000 →
      compL gd t vs c f xs acc s = .nl (acc ++ (xs.filter p).map g) s
  | [], acc, _, _ => by
    unfold compL
    rw [if_pos hg]
    simp
  | d :: ds, acc, h, hl => by
    obtain ⟨s1, h1, s2, h2, e2, h3⟩ := h d List.mem_cons_self
    have hl' : acc.length + ds.length + 1 ≤ 100000 := by
      rw [List.length_cons] at hl
      omega
    unfold compL
    rw [if_pos hg, h1]
    show okB (c s1) _ = _
    rw [h2]
    show (if p d = true then _ else _) = _
    cases hp : p d with
    | false =>
      rw [if_neg (by decide)]
      have eo : outS s s2 = s := by
        unfold outS
        rw [e2]
      rw [eo, compL_pure p g hg ds acc (fun x hx => h x (List.mem_cons_of_mem _ hx)) (by omega), List.filter_cons, if_neg (by rw [hp]; decide)]
    | true =>
      rw [if_pos rfl]
      obtain ⟨s3, h4, e3⟩ := h3 hp
      rw [h4]
      show (if acc.length < 100000 then _ else _) = _
      rw [if_pos (by omega)]
      have eo : outS s s3 = s := by
        unfold outS
        rw [e3]
      rw [eo, compL_pure p g hg ds (acc ++ [g d]) (fun x hx => h x (List.mem_cons_of_mem _ hx)) (by rw [List.length_append]; simp; omega), List.filter_cons, if_pos hp]
      simp
/-- .. of two clauses -/
theorem innL_pure {t1 : DT} {vs1 : List Nat} {c1 : DB} {f : DE} {k : List D → S → R} {s : S} (g : D → D) :
    ∀ (ys acc : List D), (∀ d ∈ ys, ∃ s1, t1 d (inS vs1 s) = some s1 ∧ ∃ s2, c1 s1 = .ok true s2 ∧ s2.ce = s.ce ∧ ∃ s3, f s2 = .ok (g d) s3 ∧ s3.ce = s.ce) → acc.length + ys.length ≤ 100000 →
      innL t1 vs1 c1 f k ys acc s = k (acc ++ ys.map g) s
  | [], acc, _, _ => by
    unfold innL
    simp
  | d :: ds, acc, h, hl => by
    obtain ⟨s1, h1, s2, h2, e2, s3, h4, e3⟩ := h d List.mem_cons_self
    have hl' : acc.length + ds.length + 1 ≤ 100000 := by
      rw [List.length_cons] at hl
      omega
    unfold innL
    rw [h1]
    show okB (c1 s1) _ = _
    rw [h2]
    show okR (f s2) _ = _
    rw [h4]
    show (if acc.length < 100000 then _ else _) = _
    rw [if_pos (by omega)]
    have eo : outS s s3 = s := by
      unfold outS
      rw [e3]
    rw [eo, innL_pure g ds (acc ++ [g d]) (fun x hx => h x (List.mem_cons_of_mem _ hx)) (by rw [List.length_append]; simp; omega)]
    simp
theorem compL2_pure {t t1 : DT} {vs vs1 : List Nat} {c c1 : DB} {it1 : DI} {f : DE} {s : S} (g : D → D → D) (ys : List D) :
    ∀ (xs acc : List D), (∀ d ∈ xs, ∃ s1, t d (inS vs s) = some s1 ∧ ∃ s2, c s1 = .ok true s2 ∧ s2.ce = s.ce ∧ ∃ s3, it1 s2 = .ok ys s3 ∧ s3.ce = s.ce ∧
        ∀ y ∈ ys, ∃ s4, t1 y (inS vs1 s3) = some s4 ∧ ∃ s5, c1 s4 = .ok true s5 ∧ s5.ce = s3.ce ∧ ∃ s6, f s5 = .ok (g d y) s6 ∧ s6.ce = s3.ce) → acc.length + xs.length * ys.length ≤ 100000 →
      compL2 t vs c it1 t1 vs1 c1 f xs acc s = .nl (acc ++ (xs.map fun d => ys.map (g d)).flatten) s
  | [], acc, _, _ => by
    unfold compL2
    simp
  | d :: ds, acc, h, hl => by
    obtain ⟨s1, h1, s2, h2, e2, s3, h4, e3, h5⟩ := h d List.mem_cons_self
    rw [List.length_cons, Nat.add_mul, Nat.one_mul] at hl
    unfold compL2
    rw [h1]
    show okB (c s1) _ = _
    rw [h2]
    show okI (it1 s2) _ = _
    rw [h4]
    show innL t1 vs1 c1 f _ ys acc s3 = _
    rw [innL_pure (g d) ys acc h5 (by omega)]
    have eo : outS s s3 = s := by
      unfold outS
      rw [e3]
    rw [eo, compL2_pure g ys ds (acc ++ ys.map (g d)) (fun x hx => h x (List.mem_cons_of_mem _ hx)) (by rw [List.length_append, List.length_map]; omega)]
    simp
/-- a loop by what each turn does to the state -/
theorem loop_run {t : DT} {body : DS} (st : Nat → S) :
    ∀ (xs : List D) (i : Nat), (∀ j d, xs[j]? = some d → ∃ s1, t d (st (i + j)) = some s1 ∧ (body s1 = .nx (st (i + j + 1)) ∨ body s1 = .ct (st (i + j + 1)))) → loop t body xs (st i) = .nx (st (i + xs.length))
  | [], i, _ => rfl
  | d :: ds, i, h => by
    obtain ⟨s1, h1, h2⟩ := h 0 d rfl
    have h1' : t d (st i) = some s1 := h1
    unfold loop
    rw [h1']
    show loopK (body s1) _ = _
    have ih := loop_run (t := t) (body := body) st ds (i + 1) fun j x hx => by
      obtain ⟨s2, a1, a2⟩ := h (j + 1) x hx
      have e1 : i + (j + 1) = i + 1 + j := by omega
      rw [e1] at a1 a2
      exact ⟨s2, a1, a2⟩
    have e2 : i + 1 + ds.length = i + (d :: ds).length := by
      rw [List.length_cons]
      omega
    rw [e2] at ih
    rcases h2 with h2 | h2
    · rw [h2]
      exact ih
    · rw [h2]
      exact ih
end Dv
/-! ### one step each -/
namespace Dv
open PySem PySem.Spec PyProof.Rows L2
section
variable {f g h : DE} {s s1 s2 s3 : S} {a b c d : D} {xs : List D} {b1' : Bool} {p : List Cell → D → Po} {p2 : List Cell → D → D → Po} {tb tc : DB} {m : Fn} {fs : List (Str × D)} {k i j l : Nat} {ga : DA} {ds : List D} {x : Xc} {sa sb : DS} {o : O}
theorem r_var (e : s.sl[i]? = some (some d)) : dVar i s = .ok d s := by
  unfold dVar
  rw [e]
theorem r_fz_nl (e : f s = .nl xs s1) : dFz f s = .ok (.lst xs) s1 := by
  unfold dFz
  rw [e] <;> rfl
theorem r_fz_ni (e : f s = .ni k fs s1) : dFz f s = .ok (.obj k fs) s1 := by
  unfold dFz
  rw [e] <;> rfl
theorem r_fz_ok (e : f s = .ok d s1) : dFz f s = .ok d s1 := by
  unfold dFz
  rw [e] <;> rfl
theorem r_ce_nl (e : f s = .nl xs s1) : dCe f s = .ok (.rf s1.ce.length) ⟨s1.sl, s1.ce ++ [.lst xs], s1.n0⟩ := by
  unfold dCe
  rw [e] <;> rfl
theorem r_ce_ni (e : f s = .ni k fs s1) : dCe f s = .ok (.rf s1.ce.length) ⟨s1.sl, s1.ce ++ [.ins k fs], s1.n0⟩ := by
  unfold dCe
  rw [e] <;> rfl
theorem r_op (e1 : f s = .ok a s1) (e2 : g s1 = .ok b s2) : dOp p2 f g s = poK s2 (p2 s2.ce a b) := by
  unfold dOp
  rw [e1]
  show bindR (g s1) _ = _
  rw [e2] <;> rfl
theorem r_un (e1 : f s = .ok a s1) : dUn p f s = poK s1 (p s1.ce a) := by
  unfold dUn
  rw [e1] <;> rfl
theorem r_anil : aNil s = .ok [] s := rfl
theorem r_acons (e1 : f s = .ok a s1) (e2 : ga s1 = .ok ds s2) : aCons f ga s = .ok (a :: ds) s2 := by
  unfold aCons
  rw [e1]
  show bindA (ga s1) _ = _
  rw [e2] <;> rfl
theorem r_a1 (e1 : f s = .ok a s1) : aCons f aNil s = .ok [a] s1 := r_acons e1 rfl
theorem r_a2 (e1 : f s = .ok a s1) (e2 : g s1 = .ok b s2) : aCons f (aCons g aNil) s = .ok [a, b] s2 := r_acons e1 (r_a1 e2)
theorem r_a3 (e1 : f s = .ok a s1) (e2 : g s1 = .ok b s2) (e3 : h s2 = .ok c s3) : aCons f (aCons g (aCons h aNil)) s = .ok [a, b, c] s3 := r_acons e1 (r_a2 e2 e3)
theorem r_bi {pb : List Cell → List D → Po} (e : ga s = .ok ds s1) : dBi pb ga s = poK s1 (pb s1.ce ds) := by
  unfold dBi
  rw [e] <;> rfl
theorem r_lst (e : ga s = .ok ds s1) (hl : ds.length ≤ 100000) : dLst ga s = .nl ds s1 := by
  unfold dLst
  rw [e]
  show (if ds.length ≤ 100000 then R.nl ds s1 else .no) = _
  rw [if_pos hl]
theorem r_tup (e : ga s = .ok ds s1) (hl : ds.length ≤ 100000) : dTup ga s = .ok (.tup ds) s1 := by
  unfold dTup
  rw [e]
  show (if ds.length ≤ 100000 then R.ok (.tup ds) s1 else .no) = _
  rw [if_pos hl]
theorem r_call (e : ga s = .ok ds s1) (hl : ds.length = k) : dCall k m ga s = frK s1 (m ds s1.ce) := by
  unfold dCall
  rw [e]
  show (if ds.length = k then frK s1 (m ds s1.ce) else .no) = _
  rw [if_pos hl]
theorem r_make {mk : MkFn} (e : ga s = .ok ds s1) (hl : ds.length + 1 = k) (em : mk ds s1.ce = .ok fs) : dMake i k mk ga s = .ni i fs s1 := by
  unfold dMake
  rw [e]
  show (if ds.length + 1 = k then fiK i s1 (mk ds s1.ce) else .no) = _
  rw [if_pos hl, em] <;> rfl
theorem r_slice {lo hi : DP} {u v : Option Int} (e1 : f s = .ok a s) (e2 : lo s = .ok u s) (e3 : hi s = .ok v s) (e4 : look s.ce a = some xs) : dSlice f lo hi s = .nl (cutD xs u v) s := by
  unfold dSlice
  rw [e1]
  show bindPR (lo s) _ = _
  rw [e2]
  show bindPR (hi s) _ = _
  rw [e3]
  show cutK s u v (look s.ce a) = _
  rw [e4] <;> rfl
theorem r_pt (e : f s = .ok (.int k') s) : ptSome f s = .ok (some k') s := by
  unfold ptSome
  rw [e] <;> rfl
theorem r_test (e : f s = .ok (.bl b1') s1) : bTest f s = .ok b1' s1 := by
  unfold bTest
  rw [e] <;> rfl
theorem r_bnot (e : tb s = .ok b1' s1) : bNot tb s = .ok (!b1') s1 := by
  unfold bNot
  rw [e] <;> rfl
theorem r_band_t (e : tb s = .ok true s1) : bAnd tb tc s = tc s1 := by
  unfold bAnd
  rw [e] <;> rfl
theorem r_band_f (e : tb s = .ok false s1) : bAnd tb tc s = .ok false s1 := by
  unfold bAnd
  rw [e] <;> rfl
theorem r_bor_t (e : tb s = .ok true s1) : bOr tb tc s = .ok true s1 := by
  unfold bOr
  rw [e] <;> rfl
theorem r_bor_f (e : tb s = .ok false s1) : bOr tb tc s = tc s1 := by
  unfold bOr
  rw [e] <;> rfl
theorem r_and_t (e : f s = .ok (.bl true) s1) : dAnd f g s = g s1 := by
  unfold dAnd
  rw [e] <;> rfl
theorem r_and_f (e : f s = .ok (.bl false) s1) : dAnd f g s = .ok (.bl false) s1 := by
  unfold dAnd
  rw [e] <;> rfl
theorem r_or_t (e : f s = .ok (.bl true) s1) : dOr f g s = .ok (.bl true) s1 := by
  unfold dOr
  rw [e] <;> rfl
theorem r_or_f (e : f s = .ok (.bl false) s1) : dOr f g s = g s1 := by
  unfold dOr
  rw [e] <;> rfl
theorem r_not (e : f s = .ok (.bl b1') s1) : dNot f s = .ok (.bl (!b1')) s1 := by
  unfold dNot
  rw [e] <;> rfl
theorem r_if_t (e : tb s = .ok true s1) : dIf tb f g s = f s1 := by
  unfold dIf
  rw [e] <;> rfl
theorem r_if_f (e : tb s = .ok false s1) : dIf tb f g s = g s1 := by
  unfold dIf
  rw [e] <;> rfl
/-! statements -/
theorem r_set (e : f s = .ok d s1) : sSet i f s = .nx ⟨s1.sl.set i (some d), s1.ce, s1.n0⟩ := by
  unfold sSet
  rw [e] <;> rfl
theorem r_seq (e : sa s = .nx s1) : sSeq sa sb s = sb s1 := by
  unfold sSeq
  rw [e] <;> rfl
theorem r_seq_rt (e : sa s = .rt d s1) : sSeq sa sb s = .rt d s1 := by
  unfold sSeq
  rw [e] <;> rfl
theorem r_sif_t (e : tb s = .ok true s1) : sIf tb sa sb s = sa s1 := by
  unfold sIf
  rw [e] <;> rfl
theorem r_sif_f (e : tb s = .ok false s1) : sIf tb sa sb s = sb s1 := by
  unfold sIf
  rw [e] <;> rfl
theorem r_ret (e : f s = .ok d s1) : sRet f s = .rt d s1 := by
  unfold sRet
  rw [e] <;> rfl
theorem r_ret_nl (e : f s = .nl xs s1) : sRet f s = .rl xs s1 := by
  unfold sRet
  rw [e] <;> rfl
theorem r_ret_ni (e : f s = .ni k fs s1) : sRet f s = .ri k fs s1 := by
  unfold sRet
  rw [e] <;> rfl
theorem r_drop (e : f s = .ok d s1) : sDrop f s = .nx s1 := by
  unfold sDrop
  rw [e] <;> rfl
theorem r_par2 (e : ga s = .ok [a, b] s1) : sPar2 i j ga s = .nx ⟨(s1.sl.set i (some a)).set j (some b), s1.ce, s1.n0⟩ := by
  unfold sPar2
  rw [e] <;> rfl
theorem r_par3 (e : ga s = .ok [a, b, c] s1) : sPar3 i j l ga s = .nx ⟨((s1.sl.set i (some a)).set j (some b)).set l (some c), s1.ce, s1.n0⟩ := by
  unfold sPar3
  rw [e] <;> rfl
theorem r_for {it : DI} {t : DT} (e : it s = .ok xs s1) : sFor it t sa s = loop t sa xs s1 := by
  unfold sFor
  rw [e] <;> rfl
theorem r_comp {it : DI} {t : DT} {vs : List Nat} (e : it s = .ok xs s1) : dComp it t vs tb f s = compL gYes t vs tb f xs [] s1 := by
  unfold dComp
  rw [e] <;> rfl
theorem r_comp2 {it it1 : DI} {t t1 : DT} {vs vs1 : List Nat} (e : it s = .ok xs s1) : dComp2 it t vs tb it1 t1 vs1 tc f s = compL2 t vs tb it1 t1 vs1 tc f xs [] s1 := by
  unfold dComp2
  rw [e] <;> rfl
theorem r_iL (e : f s = .ok (.lst xs) s1) : iL f s = .ok xs s1 := by
  unfold iL
  rw [e] <;> rfl
theorem r_iL_nl (e : f s = .nl xs s1) : iL f s = .ok xs s1 := by
  unfold iL
  rw [e] <;> rfl
theorem r_iA {kk : List D → Option (List D)} (e : ga s = .ok ds s1) (ek : kk ds = some xs) : iA kk ga s = .ok xs s1 := by
  unfold iA
  rw [e]
  show opI s1 (kk ds) = _
  rw [ek] <;> rfl
end
end Dv
/-! ### turns that leave the state as it is -/
namespace Dv
open PySem PySem.Spec PyProof.Rows L2
theorem compL_pu {gd : S → Bool} {t : DT} {vs : List Nat} {c : DB} {f : DE} {s : S} {xs : List D} (p : D → Bool) (g : D → D) (hg : gd s = true) (h : ∀ d ∈ xs, ∃ s1, t d (inS vs s) = some s1 ∧ s1.ce = s.ce ∧ c s1 = .ok (p d) s1 ∧ (p d = true → f s1 = .ok (g d) s1)) (hl : xs.length ≤ 100000) :
    compL gd t vs c f xs [] s = .nl ((xs.filter p).map g) s := by
  rw [compL_pure p g hg xs [] (fun d hd => by
    obtain ⟨s1, h1, h2, h3, h4⟩ := h d hd
    exact ⟨s1, h1, s1, h3, h2, fun hp => ⟨s1, h4 hp, h2⟩⟩) (by simpa using hl), List.nil_append]
/-- all items, no test -/
theorem compL_all {gd : S → Bool} {t : DT} {vs : List Nat} {f : DE} {s : S} {xs : List D} (g : D → D) (hg : gd s = true) (h : ∀ d ∈ xs, ∃ s1, t d (inS vs s) = some s1 ∧ s1.ce = s.ce ∧ f s1 = .ok (g d) s1) (hl : xs.length ≤ 100000) :
    compL gd t vs bYes f xs [] s = .nl (xs.map g) s := by
  rw [compL_pu (fun _ => true) g hg (fun d hd => by
    obtain ⟨s1, h1, h2, h3⟩ := h d hd
    exact ⟨s1, h1, h2, rfl, fun _ => h3⟩) hl, List.filter_eq_self.mpr fun _ _ => rfl]
theorem compL2_pu {t t1 : DT} {vs vs1 : List Nat} {it1 : DI} {f : DE} {s : S} {xs : List D} (g : D → D → D) (ys : List D) (h : ∀ d ∈ xs, ∃ s1, t d (inS vs s) = some s1 ∧ s1.ce = s.ce ∧ it1 s1 = .ok ys s1 ∧
      ∀ y ∈ ys, ∃ s4, t1 y (inS vs1 s1) = some s4 ∧ s4.ce = s1.ce ∧ f s4 = .ok (g d y) s4) (hl : xs.length * ys.length ≤ 100000) :
    compL2 t vs bYes it1 t1 vs1 bYes f xs [] s = .nl (xs.map fun d => ys.map (g d)).flatten s := by
  rw [compL2_pure g ys xs [] (fun d hd => by
    obtain ⟨s1, h1, h2, h3, h4⟩ := h d hd
    refine ⟨s1, h1, s1, rfl, h2, s1, h3, h2, fun y hy => ?_⟩
    obtain ⟨s4, a1, a2, a3⟩ := h4 y hy
    exact ⟨s4, a1, s4, rfl, a2, s4, a3, a2⟩) (by simpa using hl), List.nil_append]
end Dv
/-! calls that leave the cells as they are -/
namespace Dv
open PySem PySem.Spec PyProof.Rows L2
section
variable {f g : DE} {s s1 s2 : S} {a b d : D} {xs ds : List D} {m : Fn} {k : Nat} {ga : DA}
theorem r_cok (e : ga s = .ok ds s1) (hm : m ds s1.ce = .ok d s1.ce) (hl : ds.length = k) : dCall k m ga s = .ok d s1 := by
  rw [r_call e hl, hm] <;> rfl
theorem r_cnl (e : ga s = .ok ds s1) (hm : m ds s1.ce = .nl xs s1.ce) (hl : ds.length = k) : dCall k m ga s = .nl xs s1 := by
  rw [r_call e hl, hm] <;> rfl
end
end Dv
set_option maxRecDepth 100000
set_option maxHeartbeats 4000000
/-! list(zip(a, b)) -/
namespace Dv
open PySem PySem.Spec PyProof.Rows L2
section
variable {prog : Program} {w : World} {A : Around}
/-- a zip between two of its items -/
structure ZSt (h : Heap) (z TI TO i1 i2 l1 l2 : Addr) (k : Nat) (S : Addr) : Prop where
  pr : IsPair h TI (.ref i1) (.ref i2)
  a : h.IsListIter i1 l1 k
  b : h.IsListIter i2 l2 k
  ph : (IsZip h z TI TO .none ∧ ∃ x y, IsPair h TO x y) ∨ ∃ T f o, IsZipHeld h z TI TO T f ∧ h.get? T = some o ∧ S < T
theorem ZSt.keep {h h' : Heap} {z TI TO i1 i2 l1 l2 S : Addr} {k : Nat} (q : ZSt h z TI TO i1 i2 l1 l2 k S) (up : ∀ c o, c ≠ S → h.get? c = some o → h'.get? c = some o) (ap : ∀ c ∈ [z, TI, TO, i1, i2], c < S) : ZSt h' z TI TO i1 i2 l1 l2 k S := by
  have nz := Nat.ne_of_lt (ap z (by simp))
  refine ⟨up _ _ (Nat.ne_of_lt (ap TI (by simp))) q.pr, q.a.at fun o e => up _ o (Nat.ne_of_lt (ap i1 (by simp))) e, q.b.at fun o e => up _ o (Nat.ne_of_lt (ap i2 (by simp))) e, ?_⟩
  rcases q.ph with ⟨p, x, y, r⟩ | ⟨T, f, o, p, r, lt⟩
  · exact .inl ⟨up _ _ nz p, x, y, up _ _ (Nat.ne_of_lt (ap TO (by simp))) r⟩
  · exact .inr ⟨T, f, o, up _ _ nz p, up _ _ (Nat.ne_of_gt lt) r, lt⟩
variable {E : Value → Shared → Prop} {s : Shared} {z TI TO i1 i2 l1 l2 S : Addr} {k : Nat} {va vb : Array Value}
theorem z_next {x y : Value} {Q : Option Value → Shared → Prop} (D : ZipApart z TI TO i1 i2 l1 l2) (q : ZSt s.heap z TI TO i1 i2 l1 l2 k S) (ap : ∀ c ∈ [z, TI, TO, i1, i2], c < S) (hS : S < s.heap.objs.size)
    (ha : s.heap.IsList l1 va) (hb : s.heap.IsList l2 vb) (hx : va[k]? = some x) (hy : vb[k]? = some y)
    (go : ∀ h', ZSt h' z TI TO i1 i2 l1 l2 (k + 1) S → IsPair h' s.heap.objs.size x y → (∀ c o, c ≠ z → c ≠ TO → c ≠ i1 → c ≠ i2 → s.heap.get? c = some o → h'.get? c = some o) → Q (some (.ref s.heap.objs.size)) { s with heap := h' }) :
    wpAny (model prog w) A (pyNext (.ref z)) Q E s := by
  obtain ⟨pr, qa, qb, ph⟩ := q
  rcases ph with ⟨p, x0, y0, r⟩ | ⟨T, f, o, p, r, lt⟩
  · exact wpAny_pyNext_zip_item D p pr r qa qb ha hb hx hy fun h' p' _ qa' qb' t' _ kp =>
      go h' ⟨kp _ _ D.TIz D.TITO D.TIi1 D.TIi2 pr, qa', qb', .inr ⟨_, false, _, p', t', hS⟩⟩ t' kp
  · have far : ∀ c ∈ [z, TI, TO, i1, i2], T ≠ c := fun c hc => Nat.ne_of_gt (Nat.lt_trans (ap c hc) lt)
    exact wpAny_pyNext_zip_item_held D p r pr qa qb ha hb hx hy fun h' p' qa' qb' t' _ kp =>
      go h' ⟨kp _ _ D.TIz D.TIi1 D.TIi2 pr, qa', qb', .inr ⟨T, true, o, p', kp _ _ (far z (by simp)) (far i1 (by simp)) (far i2 (by simp)) r, lt⟩⟩ t' fun c o c1 _ c3 c4 e => kp c o c1 c3 c4 e
theorem z_end {Q : Option Value → Shared → Prop} (hh : A.handled = none) (D : ZipApart z TI TO i1 i2 l1 l2) (q : ZSt s.heap z TI TO i1 i2 l1 l2 k S)
    (ha : s.heap.IsList l1 va) (hb : s.heap.IsList l2 vb) (he : va[k]? = none ∨ vb[k]? = none)
    (go : ∀ h', (∀ c o, c ≠ z → c ≠ TO → c ≠ i1 → c ≠ i2 → s.heap.get? c = some o → h'.get? c = some o) → Q none { s with heap := h' }) :
    wpAny (model prog w) A (pyNext (.ref z)) Q E s := by
  obtain ⟨pr, qa, qb, ph⟩ := q
  rcases ph with ⟨p, x0, y0, r⟩ | ⟨T, f, o, p, r, lt⟩
  · exact wpAny_pyNext_zip_end hh D p pr r qa qb ha hb he go
  · exact wpAny_pyNext_zip_end_held hh D p r pr qa qb ha hb he fun h' kp => go h' fun c o c1 _ c3 c4 e => kp c o c1 c3 c4 e
/-- the tuples that a zip has given: rising, behind the list, each with its two items -/
structure ZTs (va vb : Array Value) (S : Addr) (h : Heap) (ts : List Addr) : Prop where
  up : ts.Pairwise (· < ·)
  far : ∀ t ∈ ts, S < t
  two : ∀ (j : Nat) (t : Addr), ts[j]? = some t → ∃ x y, va[j]? = some x ∧ vb[j]? = some y ∧ IsPair h t x y
theorem ZTs.there {h : Heap} {ts : List Addr} (g : ZTs va vb S h ts) {t : Addr} (ht : t ∈ ts) : t < h.objs.size := by
  obtain ⟨j, hj⟩ := List.mem_iff_getElem?.mp ht
  obtain ⟨_, _, _, _, e⟩ := g.two j t hj
  exact Heap.lt_size e
theorem zl_loop {R : Result → Shared → Prop} {n : Nat} (hh : A.handled = none) (D : ZipApart z TI TO i1 i2 l1 l2) (ap : ∀ c ∈ [z, TI, TO, i1, i2], c < S) (n1 : l1 ∉ [S, z, TO, i1, i2]) (n2 : l2 ∉ [S, z, TO, i1, i2]) (hn : n ≤ sizeLine) (g1 : n ≤ va.size) (g2 : n ≤ vb.size)
    (he : va[n]? = none ∨ vb[n]? = none) (res : Value) {h0 : Heap}
    (hR : ∀ h' tk acc c ts, (∀ b o, b ∉ [S, z, TO, i1, i2] → h0.get? b = some o → h'.get? b = some o) → h'.get? S = some { cls := .type "list", dict := none, data := .seq acc c, slots := #[] } → ts.length = n → ZTs va vb S h' ts →
      acc.toList = ts.map Value.ref → R (.ok (.ret res)) { s with heap := h', toks := tk }) :
    ∀ (m i : Nat) (h : Heap) (tk c : Nat) (acc : Array Value) (ts : List Addr), n - i = m → i ≤ n → ZSt h z TI TO i1 i2 l1 l2 i S → h.IsList l1 va → h.IsList l2 vb → (∀ b o, b ∉ [S, z, TO, i1, i2] → h0.get? b = some o → h.get? b = some o) →
      h.get? S = some { cls := .type "list", dict := none, data := .seq acc c, slots := #[] } → acc.toList = ts.map Value.ref → ts.length = i → ZTs va vb S h ts →
      codeAny (model prog w) A (.builtin "list.extend.loop" ⟨[.ref S, .ref z, res], []⟩) R { s with heap := h, toks := tk } := by
  have nS : ∀ c ∈ [z, TI, TO, i1, i2], S ≠ c := fun c hc => Nat.ne_of_gt (ap c hc)
  intro m
  induction m with
  | zero =>
    intro i h tk c acc ts hm hi q ha hb kp hS hacc hl g
    have ei : i = n := by omega
    subst ei
    refine codeAny_builtin PySem.F.entry_extend_loop ?_
    rw [Around.under_plainId PySem.F.plain_extend_loop _]
    show wpAny _ A.in1 (pyNext (.ref z) >>= _) _ _ _
    refine wpAny_bind (z_end (s := { s with heap := h, toks := tk }) (A := A.in1) hh D q ha hb he fun h' kq => ?_)
    refine wpAny_pure (hR h' tk acc c ts (fun b o hb e => kq b o (fun u => hb (by simp [u])) (fun u => hb (by simp [u])) (fun u => hb (by simp [u])) (fun u => hb (by simp [u])) (kp b o hb e))
      (kq S _ (nS z (by simp)) (nS TO (by simp)) (nS i1 (by simp)) (nS i2 (by simp)) hS) hl ⟨g.up, g.far, fun j t hj => ?_⟩ hacc)
    obtain ⟨x, y, e1, e2, e3⟩ := g.two j t hj
    have ft := g.far t (List.mem_of_getElem? hj)
    have nt : ∀ c ∈ [z, TI, TO, i1, i2], t ≠ c := fun c hc => Nat.ne_of_gt (Nat.lt_trans (ap c hc) ft)
    exact ⟨x, y, e1, e2, kq t _ (nt z (by simp)) (nt TO (by simp)) (nt i1 (by simp)) (nt i2 (by simp)) e3⟩
  | succ m ih =>
    intro i h tk c acc ts hm hi q ha hb kp hS hacc hl g
    have lt : i < n := by omega
    have hsz : acc.size = i := by rw [← Array.length_toList, hacc, List.length_map, hl]
    have hx : va[i]? = some va[i] := Array.getElem?_eq_getElem (by omega)
    have hy : vb[i]? = some vb[i] := Array.getElem?_eq_getElem (by omega)
    have hSl : S < h.objs.size := Heap.lt_size hS
    refine codeAny_builtin PySem.F.entry_extend_loop ?_
    rw [Around.under_plainId PySem.F.plain_extend_loop _]
    show wpAny _ A.in1 (pyNext (.ref z) >>= _) _ _ _
    refine wpAny_bind (z_next (s := { s with heap := h, toks := tk }) (A := A.in1) D q ap hSl ha hb hx hy fun h' q' tp kq => ?_)
    dsimp only at tp kq ⊢
    have hS' := kq S _ (nS z (by simp)) (nS TO (by simp)) (nS i1 (by simp)) (nS i2 (by simp)) hS
    have up : ∀ b o, b ≠ S → h'.get? b = some o → (h'.update S (Obj.mapSeq (·.push (Value.ref h.objs.size)))).get? b = some o := fun b o hb e => (Heap.get?_update_other _ _ (Ne.symm hb)).trans e
    have on : ∀ b o, b ∉ [S, z, TO, i1, i2] → h.get? b = some o → (h'.update S (Obj.mapSeq (·.push (Value.ref h.objs.size)))).get? b = some o := fun b o hb e =>
      up b o (fun u => hb (by simp [u])) (kq b o (fun u => hb (by simp [u])) (fun u => hb (by simp [u])) (fun u => hb (by simp [u])) (fun u => hb (by simp [u])) e)
    show wpAny _ A.in1 (updateSeq S (·.push (Value.ref h.objs.size)) >>= _) _ _ _
    refine wpAny_bind ?_
    refine wpAny_updateSeq hS' rfl (wpAny_pure ⟨plainId_quiet PySem.F.plain_extend_loop _, ih (i + 1) _ tk _ (acc.push (Value.ref h.objs.size)) (ts ++ [h.objs.size]) (by omega) lt (q'.keep up ap)
      (by obtain ⟨o, e, r⟩ := ha; exact ⟨o, on l1 o n1 e, r⟩) (by obtain ⟨o, e, r⟩ := hb; exact ⟨o, on l2 o n2 e, r⟩) (fun b o hb e => on b o hb (kp b o hb e)) (Heap.get?_update_self _ hS' rfl) (by rw [Array.toList_push, hacc, List.map_append] <;> rfl) (by rw [List.length_append, hl] <;> rfl) ⟨?_, ?_, ?_⟩⟩)
      (by rw [hsz]; omega) (by show (acc.push (Value.ref h.objs.size)).size ≤ sizeLine + 1; rw [Array.size_push, hsz]; omega)
    · refine List.pairwise_append.mpr ⟨g.up, List.pairwise_singleton _ _, fun t ht u hu => ?_⟩
      rw [List.mem_singleton.mp hu]
      exact g.there ht
    · intro t ht
      rcases List.mem_append.mp ht with ht | ht
      · exact g.far t ht
      · rw [List.mem_singleton.mp ht]
        exact hSl
    · intro j t hj
      rcases Nat.lt_trichotomy j ts.length with o1 | o1 | o1
      · rw [List.getElem?_append_left o1] at hj
        obtain ⟨x, y, e1, e2, e3⟩ := g.two j t hj
        have ft := g.far t (List.mem_of_getElem? hj)
        have nt : ∀ c ∈ [z, TI, TO, i1, i2], t ≠ c := fun c hc => Nat.ne_of_gt (Nat.lt_trans (ap c hc) ft)
        exact ⟨x, y, e1, e2, up t _ (Nat.ne_of_gt ft) (kq t _ (nt z (by simp)) (nt TO (by simp)) (nt i1 (by simp)) (nt i2 (by simp)) e3)⟩
      · subst o1
        have et : h.objs.size = t := by simpa using hj
        subst et
        refine ⟨_, _, ?_, ?_, up _ _ (Nat.ne_of_gt hSl) tp⟩
        · rw [hl]
          exact hx
        · rw [hl]
          exact hy
      · have hno : (ts ++ [h.objs.size])[j]? = none := List.getElem?_eq_none (by rw [List.length_append, List.length_singleton]; omega)
        rw [hno] at hj
        cases hj
end
end Dv
set_option maxRecDepth 100000
set_option maxHeartbeats 4000000
/-! list(zip(a, b)): the call -/
namespace Dv
open PySem PySem.Spec PyProof.Rows L2
theorem zip_no_len : typeLookup (.type "zip") "__len__" = pure none := am_miss_of_fast (by decide +kernel)
theorem zip_no_hint : typeLookup (.type "zip") "__length_hint__" = pure none := am_miss_of_fast (by decide +kernel)
section
variable {prog : Program} {w : World} {A : Around} {E : Value → Shared → Prop} {s : Shared} {z TI TO i1 i2 l1 l2 : Addr} {va vb : Array Value} {n : Nat}
theorem ext_zip {R : Result → Shared → Prop} {S : Addr} {c0 : Nat} (hh : A.handled = none) (D : ZipApart z TI TO i1 i2 l1 l2) (ap : ∀ c ∈ [z, TI, TO, i1, i2], c < S) (n1 : l1 ∉ [S, z, TO, i1, i2]) (n2 : l2 ∉ [S, z, TO, i1, i2]) (hn : n ≤ sizeLine) (g1 : n ≤ va.size) (g2 : n ≤ vb.size)
    (he : va[n]? = none ∨ vb[n]? = none) (res : Value) (q : ZSt s.heap z TI TO i1 i2 l1 l2 0 S) (hty : s.TypeIs (.ref z) "zip") (hit : ∀ Q' : Value → Shared → Prop, Q' (.ref z) s → wpAny (model prog w) A.in1 (pyIter (.ref z)) Q' (fun e s' => R (.error e) s') s)
    (ha : s.heap.IsList l1 va) (hb : s.heap.IsList l2 vb) (hS : s.heap.get? S = some { cls := .type "list", dict := none, data := .seq #[] c0, slots := #[] })
    (hR : ∀ h' tk acc c ts, (∀ b o, b ∉ [S, z, TO, i1, i2] → s.heap.get? b = some o → h'.get? b = some o) → h'.get? S = some { cls := .type "list", dict := none, data := .seq acc c, slots := #[] } → ts.length = n → ZTs va vb S h' ts →
      acc.toList = ts.map Value.ref → R (.ok (.ret res)) { s with heap := h', toks := tk }) :
    wpAny (model prog w) A.in1 (Builtin.List.listExtendWith (.ref S) (.ref z) res)
      (fun fin s' => match fin with
        | .done f => R (.ok f) s'
        | .again c' => c'.quiet = true ∧ codeAny (model prog w) A c' R s')
      (fun e s' => R (.error e) s') s := by
  have nz : S ≠ z := Nat.ne_of_gt (ap z (by simp))
  have same : Builtin.List.listSameRef (.ref S) (.ref z) = false := by simp [Builtin.List.listSameRef, nz]
  have no1 : (Value.type "zip" == Value.type "list") = false := by decide
  have no2 : (Value.type "zip" == Value.type "tuple") = false := by decide
  unfold Builtin.List.listExtendWith
  refine wpAny_bind (wpAny_typeOf hty ?_)
  simp only [same, no1, no2, Bool.or_false, Bool.false_eq_true, if_false]
  refine wpAny_bind (hit _ ?_)
  refine wpAny_bind (wpAny_holding ?_)
  unfold Builtin.List.listLengthHint
  refine wpAny_bind (wpAny_specialOf hty zip_no_len ?_)
  refine wpAny_bind (m := specialOf (Value.ref z) (Str.ofString "__length_hint__")) (wpAny_specialOf hty zip_no_hint ?_)
  refine wpAny_pure ?_
  refine wpAny_bind (m := rule "list.extend.makes-room") (wpAny_rule ?_)
  refine wpAny_bind (m := Builtin.List.listTouch (.ref S)) ?_
  refine wpAny_bind (m := updateSeq S (·.push .none)) (wpAny_updateSeq hS rfl ?_)
  have hS1 := Heap.get?_update_self (Obj.mapSeq (·.push Value.none)) hS rfl
  refine wpAny_updateSeq (hz := by seq_fits) hS1 rfl ?_
  have hS2 := Heap.get?_update_self (Obj.mapSeq (·.pop)) hS1 rfl
  have up : ∀ b o, b ≠ S → s.heap.get? b = some o → ((s.heap.update S (Obj.mapSeq (·.push Value.none))).update S (Obj.mapSeq (·.pop))).get? b = some o :=
    fun b o hb e => (Heap.get?_update_other _ _ (Ne.symm hb)).trans ((Heap.get?_update_other _ _ (Ne.symm hb)).trans e)
  have m1 : l1 ≠ S := fun e => n1 (by simp [e])
  have m2 : l2 ≠ S := fun e => n2 (by simp [e])
  exact wpAny_pure ⟨plainId_quiet PySem.F.plain_extend_loop _, zl_loop (h0 := s.heap) (va := va) (vb := vb) hh D ap n1 n2 hn g1 g2 he res hR n 0 _ s.toks _ #[] [] (Nat.sub_zero _) (Nat.zero_le _) (q.keep up ap)
    (by obtain ⟨o, e, r⟩ := ha; exact ⟨o, up _ o m1 e, r⟩) (by obtain ⟨o, e, r⟩ := hb; exact ⟨o, up _ o m2 e, r⟩) (fun b o hb e => up b o (fun u => hb (by simp [u])) e) hS2 rfl rfl ⟨List.Pairwise.nil, (fun _ h => nomatch h), fun j t h => by simp at h⟩⟩
theorem call_list_zip {Q : Value → Shared → Prop} (hh : A.handled = none) (D : ZipApart z TI TO i1 i2 l1 l2) (ap : ∀ c ∈ [z, TI, TO, i1, i2], c < s.heap.objs.size) (n1 : l1 ∉ [z, TO, i1, i2]) (n2 : l2 ∉ [z, TO, i1, i2]) (hn : n ≤ sizeLine) (g1 : n ≤ va.size) (g2 : n ≤ vb.size)
    (he : va[n]? = none ∨ vb[n]? = none) (q : ZSt s.heap z TI TO i1 i2 l1 l2 0 s.heap.objs.size) (hz : ∃ f, IsZip s.heap z TI TO f) (ha : s.heap.IsList l1 va) (hb : s.heap.IsList l2 vb)
    (hQ : ∀ h' tk acc c ts, (∀ b o, b ∉ [s.heap.objs.size, z, TO, i1, i2] → s.heap.get? b = some o → h'.get? b = some o) → h'.get? s.heap.objs.size = some { cls := .type "list", dict := none, data := .seq acc c, slots := #[] } → ts.length = n → ZTs va vb s.heap.objs.size h' ts →
      acc.toList = ts.map Value.ref → Q (.ref s.heap.objs.size) { s with heap := h', toks := tk }) :
    wpAny (model prog w) A (call (.type "list") [.ref z]) Q E s := by
  obtain ⟨f, hz⟩ := hz
  have lt : ∀ {b o}, s.heap.get? b = some o → b ≠ s.heap.objs.size := fun e => Nat.ne_of_lt (Heap.lt_size e)
  refine callType_codes (Q₁ := fun obj t => obj = .ref s.heap.objs.size ∧ t = { s with heap := s.heap.push { cls := .type "list", data := .seq #[] } }) PySem.F.called_list (PySem.F.typeCall_list_1 _) PySem.F.entry_list_init
    (code_list_new _ ⟨rfl, rfl⟩) fun obj t ht => ?_
  obtain ⟨rfl, rfl⟩ := ht
  have hS : (s.heap.push { cls := .type "list", data := .seq #[] }).get? s.heap.objs.size = some { cls := .type "list", data := .seq #[] } := Heap.get?_push_size _ rfl
  refine ⟨⟨_, hS, rfl⟩, PySem.F.args_list_init_2 _ _, ?_⟩
  refine wpAny_bind (m := Builtin.List.listItems (.ref s.heap.objs.size)) ?_
  unfold Builtin.List.listItems
  refine wpAny_bind (wpAny_seqItems hS rfl (wpAny_pure ?_))
  refine wpAny_bind (m := updateSeq s.heap.objs.size (fun _ => #[])) (wpAny_updateSeq hS rfl ?_)
  have hS2 := Heap.get?_update_self (Obj.mapSeq (fun _ => (#[] : Array Value))) hS rfl
  have up : ∀ b o, s.heap.get? b = some o → ((s.heap.push { cls := .type "list", data := .seq #[] }).update s.heap.objs.size (Obj.mapSeq (fun _ => (#[] : Array Value)))).get? b = some o :=
    fun b o e => (Heap.get?_update_other _ _ (Ne.symm (lt e))).trans (Heap.get?_push_of_some _ e)
  refine wpAny_bind (m := letGo (#[] : Array Value).toList.reverse) (wpAny_letGo ?_)
  have k1 : l1 ∉ [s.heap.objs.size, z, TO, i1, i2] := by
    obtain ⟨o, e, _⟩ := ha
    intro h
    rcases List.mem_cons.mp h with h | h
    · exact lt e h
    · exact n1 h
  have k2 : l2 ∉ [s.heap.objs.size, z, TO, i1, i2] := by
    obtain ⟨o, e, _⟩ := hb
    intro h
    rcases List.mem_cons.mp h with h | h
    · exact lt e h
    · exact n2 h
  show wpAny _ A.in1.in1 (Builtin.List.listExtendWith (.ref s.heap.objs.size) (.ref z) .none) _ _ _
  refine ext_zip (A := A.in1) (R := wants (fun r s2 => r = Value.none ∧ Q (Value.ref s.heap.objs.size) s2) E) (n := n) (va := va) (vb := vb) (s := { s with heap := (s.heap.push { cls := .type "list", data := .seq #[] }).update s.heap.objs.size (Obj.mapSeq (fun _ => (#[] : Array Value))) }) hh D ap k1 k2 hn g1 g2 he .none
    (q.keep (fun c o _ e => up c o e) ap) ⟨_, up _ _ hz, rfl⟩ (fun Q' h => wpAny_pyIter_zip (up _ _ hz) h) (by obtain ⟨o, e, r⟩ := ha; exact ⟨o, up _ o e, r⟩) (by obtain ⟨o, e, r⟩ := hb; exact ⟨o, up _ o e, r⟩) hS2 fun h' tk acc c ts kp hS' hl g hacc => ?_
  exact ⟨rfl, hQ h' tk acc c ts (fun b o hb e => kp b o hb (up b o e)) hS' hl g hacc⟩
end
end Dv
set_option maxRecDepth 100000
set_option maxHeartbeats 4000000
/-! list(zip(a, b)): its rule -/
namespace Dv
open PySem PySem.Spec PyProof.Rows L2
/-- pairs laid at these addresses -/
def layP : Hp → List Addr → List (V × V) → Hp
  | H, t :: ts, p :: ps => layP (upd H t (.tup [p.1, p.2])) ts ps
  | H, _, _ => H
theorem layP_off {b : Addr} : ∀ (ts : List Addr) (ps : List (V × V)) (H : Hp), b ∉ ts → layP H ts ps b = H b
  | [], _, _, _ => rfl
  | _ :: _, [], _, _ => rfl
  | t :: ts, p :: ps, H, h => (layP_off ts ps _ fun z => h (List.mem_cons_of_mem _ z)).trans (upd_ne fun z => h (by rw [z]; exact List.mem_cons_self))
theorem layP_at : ∀ (ts : List Addr) (ps : List (V × V)) (H : Hp), ts.length = ps.length → ts.Nodup → ∀ (j : Nat) (t : Addr), ts[j]? = some t → ∃ p, ps[j]? = some p ∧ layP H ts ps t = some (.tup [p.1, p.2])
  | [], _, _, _, _, _, _, e => by simp at e
  | _ :: _, [], _, h, _, _, _, _ => by simp at h
  | t :: ts, p :: ps, H, h, nd, 0, u, e => by
    have et : t = u := by simpa using e
    subst et
    exact ⟨p, rfl, (layP_off ts ps _ (List.nodup_cons.mp nd).1).trans upd_same⟩
  | t :: ts, p :: ps, H, h, nd, j + 1, u, e => layP_at ts ps _ (by simpa using h) (List.nodup_cons.mp nd).2 j u (by simpa using e)
theorem refs_vals : ∀ ts : List Addr, Vals (ts.map V.ref) (ts.map Value.ref)
  | [] => .nil
  | _ :: r => .cons rfl (refs_vals r)
theorem vals_at : ∀ {xs : List V} {us : List Value}, Vals xs us → ∀ {j : Nat} {x : V} {u : Value}, xs[j]? = some x → us[j]? = some u → RelV x u
  | _, _, .cons r _, 0, _, _, h1, h2 => by
    have e1 := Option.some.inj h1
    have e2 := Option.some.inj h2
    subst e1
    subst e2
    exact r
  | _, _, .cons _ t, _ + 1, _, _, h1, h2 => vals_at t (by simpa using h1) (by simpa using h2)
section
variable {X : Cx} {pins : List (Addr × Obj)} {σ : L2.St} {H : Hp} {s : Shared}
theorem zip_laid {h' : Heap} {tk : Nat} {xs ys : List V} {ia ib : List Value} {acc : Array Value} {c : Nat} {S : Addr} {ts : List Addr} (I : Inv X pins σ H s) (hz : ts.length ≤ sizeLine) (r1 : Vals xs ia) (r2 : Vals ys ib) (hl : ts.length = (xs.zip ys).length)
    (hk : ∀ b o, s.heap.get? b = some o → h'.get? b = some o) (hle : s.heap.objs.size ≤ S) (hS : h'.get? S = some { cls := .type "list", dict := none, data := .seq acc c, slots := #[] }) (g : ZTs ia.toArray ib.toArray S h' ts) (hacc : acc.toList = ts.map Value.ref) :
    H S = none ∧ S ∉ ts ∧ ts.Nodup ∧ (∀ t ∈ ts, H t = none) ∧ Inv X pins σ (layP (upd H S (.lst (ts.map V.ref))) ts (xs.zip ys)) { s with heap := h', toks := tk } := by
  have nS : S ∉ ts := fun z => Nat.lt_irrefl _ (g.far _ z)
  have nd : ts.Nodup := List.Pairwise.imp (fun {a b} (h : a < b) => Nat.ne_of_lt h) g.up
  have old : ∀ t ∈ ts, s.heap.objs.size ≤ t := fun t ht => Nat.le_trans hle (Nat.le_of_lt (g.far t ht))
  have fr : ∀ t ∈ ts, H t = none := fun t ht => I.hok.fresh (old t ht)
  have frS : H S = none := I.hok.fresh hle
  have atP := layP_at ts (xs.zip ys) (upd H S (.lst (ts.map V.ref))) hl nd
  have off : ∀ b, b ∉ ts → b ≠ S → layP (upd H S (.lst (ts.map V.ref))) ts (xs.zip ys) b = H b := fun b h1 h2 => (layP_off ts _ _ h1).trans (upd_ne h2)
  have low : ∀ b o, s.heap.get? b = some o → b ∉ ts ∧ b ≠ S := fun b o e => ⟨fun z => Nat.not_lt.mpr (old b z) (Heap.lt_size e), fun z => Nat.not_lt.mpr hle (z ▸ Heap.lt_size e)⟩
  have kp : ∀ b u, H b = some u → layP (upd H S (.lst (ts.map V.ref))) ts (xs.zip ys) b = some u := fun b u e => (off b (fun z => by rw [fr b z] at e; cases e) (fun z => by rw [z, frS] at e; cases e)).trans e
  have eS : layP (upd H S (.lst (ts.map V.ref))) ts (xs.zip ys) S = some (.lst (ts.map V.ref)) := (layP_off ts _ _ nS).trans upd_same
  refine ⟨frS, nS, nd, fr, I.call' (ch := []) rfl ⟨fun b o q _ _ _ => hk b o q, fun b o q _ _ _ => ⟨o.slots, hk b o q⟩, fun b o q n _ => ?_, fun b o q _ => ⟨o, hk b o q⟩, fun b xs q => kp b _ q, fun b o u q => kp b _ q, fun b ps q => ⟨#[], by rw [kp b _ q]; simp⟩⟩ (fun b u q => ?_) I.bare fun b z => by simp at z⟩
  · obtain ⟨z1, z2⟩ := low b o q
    rw [off b z1 z2]
    exact n
  · by_cases hb : b ∈ ts
    · obtain ⟨j, hj⟩ := List.mem_iff_getElem?.mp hb
      obtain ⟨p, e1, e2⟩ := atP j b hj
      rw [e2] at q
      cases q
      obtain ⟨x, y, f1, f2, f3⟩ := g.two j b hj
      obtain ⟨p1, p2⟩ := p
      obtain ⟨g1, g2⟩ := List.getElem?_zip_eq_some.mp e1
      exact ⟨by show 2 ≤ sizeLine; decide, [x, y], .cons (vals_at r1 g1 (by simpa using f1)) (.cons (vals_at r2 g2 (by simpa using f2)) .nil), ⟨_, f3, rfl, _, rfl⟩⟩
    · by_cases hb2 : b = S
      · rw [hb2] at q ⊢
        rw [eS] at q
        cases q
        refine ⟨by rw [List.length_map]; exact hz, acc.toList, c, by rw [hacc]; exact refs_vals ts, ?_⟩
        rw [Array.toArray_toList]
        exact hS
      · rw [off b hb hb2] at q
        exact (I.hok b u q).stay (fun d v _ y => hk d v y) (fun d y => kp d _ y) fun d xs y => kp d _ y
def rZipL (K : PySem.W.Frag) : List V → Hp → VK → Prop := fun vs H Q => ∃ a b xs ys, vs = [.ref a, .ref b] ∧ SqL K H a xs ∧ SqL K H b ys ∧
  ∀ (S : Addr) (ts : List Addr), H S = none → S ∉ ts → ts.Nodup → (∀ t ∈ ts, H t = none) → ts.length = (xs.zip ys).length → Q (.ref S) (layP (upd H S (.lst (ts.map V.ref))) ts (xs.zip ys))
def tZipL (K : PySem.W.Frag) (ta : TA) : TE := fun σ H Q => ta σ H fun vs H1 => rZipL K vs H1 Q
theorem pe_listZip {e1 e2 : Expr} {ta : TA} {p pz pos posz : Pos} (hc : X.calm = true) (hg : Gl X "list") (hm : X.mg "list" = none) (hgz : Gl X "zip") (hmz : X.mg "zip" = none) (ha : PA X [e1, e2] ta)
    (na : starEach [.Call (.Name "zip" pz) [e1, e2] [] posz] X.env = (false, eval (.Call (.Name "zip" pz) [e1, e2] [] posz) X.env) :: starEach [] X.env := by rfl)
    (hs : starEach [e1, e2] X.env = (false, eval e1 X.env) :: starEach [e2] X.env := by rfl) (hpl : (backTo posz (starEach [e2] X.env)).any (·.1) = false := by rfl) :
    PE X (.Call (.Name "list" p) [.Call (.Name "zip" pz) [e1, e2] [] posz] [] pos) (tZipL X.K ta) := by
  refine ⟨fun pins s σ H Q I h => ?_⟩
  refine Call_ (ld_blt I hg hm boot_list (PyProof.Rows.callWith_type1 (args_cons (Call_ (ld_blt I hgz hmz PyProof.Rows.boot_zip (PyProof.Rows.callWith_type1 (thn (ha.run posz pins s σ H _ I h) fun us s1 ⟨vs, H1, I1, r1, q1⟩ => ?_) hs hpl))) na) na))
  obtain ⟨a, b, xs, ys, ex, hqx, hqy, q⟩ := q1
  subst ex
  cases r1 with
  | cons r rr =>
    cases rr with
    | cons r' rr =>
      cases rr
      cases r
      cases r'
      obtain ⟨its, rv, p1, z1⟩ := I1.list hqx
      obtain ⟨its2, rv2, p2, z2⟩ := I1.list hqy
      have la : a < s1.heap.objs.size := p1.lt
      have lb : b < s1.heap.objs.size := p2.lt
      have l1 := rv.length
      have l2 := rv2.length
      refine call_zip_2 p1.isList p2.isList fun h' hz hTI hTO h1 h2 hsz hk => args_nil ?_
      have ap : ∀ c ∈ [s1.heap.objs.size + 4, s1.heap.objs.size + 2, s1.heap.objs.size + 3, s1.heap.objs.size, s1.heap.objs.size + 1], c < h'.objs.size := fun c hc => by
        rw [hsz]
        simp at hc
        omega
      have nin : ∀ c, c < s1.heap.objs.size → c ∉ [s1.heap.objs.size + 4, s1.heap.objs.size + 3, s1.heap.objs.size, s1.heap.objs.size + 1] := fun c hc hm => by
        simp at hm
        omega
      have nin2 : ∀ c, c < s1.heap.objs.size → c ∉ [h'.objs.size, s1.heap.objs.size + 4, s1.heap.objs.size + 3, s1.heap.objs.size, s1.heap.objs.size + 1] := fun c hc hm => by
        rw [hsz] at hm
        simp at hm
        omega
      refine call_list_zip (s := { s1 with heap := h' }) (n := (xs.zip ys).length) (va := its.toArray) (vb := its2.toArray) (I1.ok.hd hc) (PySem.W.ktu_apart s1.heap.objs.size a b la lb) ap (nin a la) (nin b lb) (by rw [List.length_zip]; omega) (by rw [List.length_zip]; simp; omega) (by rw [List.length_zip]; simp; omega) ?_
        ⟨hTI, h1, h2, .inl ⟨hz, _, _, hTO⟩⟩ ⟨_, hz⟩ (by obtain ⟨o, e, r⟩ := p1.isList; exact ⟨o, hk _ o e, r⟩) (by obtain ⟨o, e, r⟩ := p2.isList; exact ⟨o, hk _ o e, r⟩) fun h2' tk acc c ts kp hS hl g hacc => ?_
      · rw [List.length_zip]
        rcases Nat.le_total xs.length ys.length with hq | hq
        · exact .inl (by simp; omega)
        · exact .inr (by simp; omega)
      · obtain ⟨k1, k2, k3, k4, J⟩ := zip_laid (tk := tk) I1 (by rw [hl, List.length_zip]; omega) rv rv2 hl (fun b o e => kp b o (nin2 b (Heap.lt_size e)) (hk b o e)) (by rw [hsz]; omega) hS g hacc
        exact ⟨.ref _, _, J, rfl, q _ ts k1 k2 k3 k4 hl⟩
end
end Dv
set_option maxRecDepth 100000
set_option maxHeartbeats 4000000
/-! list(zip(a, b)) on data -/
namespace Dv
open PySem PySem.Spec PyProof.Rows L2
section
variable {X : Cx} {cl : Cl} {e : Ent} {W : WX} {ca : List Addr} {σ : L2.St} {s : S}
theorem lay_B : ∀ (ts : List Addr) {va vb : List V} {as bs : List D} {F H : Hp}, Bx X cl e F H ca σ s → IsL X.K cl F ca va as → IsL X.K cl F ca vb bs → ts.length = (va.zip vb).length → ts.Nodup → (∀ t ∈ ts, H t = none) →
    ∃ F', Ex F F' ∧ (∀ b o, H b = some o → F b = none → F' b = none) ∧ Bx X cl e F' (layP H ts (va.zip vb)) ca σ s ∧ IsL X.K cl F' ca (ts.map V.ref) (pairs as bs)
  | [], va, vb, as, bs, F, H, b, ia, ib, hl, nd, fr => by
    refine ⟨F, Ex.refl F, fun _ _ _ n => n, ?_, ?_⟩
    · exact b
    · cases ia with
      | nil => exact .nil
      | cons x t =>
        cases ib with
        | nil => exact .nil
        | cons y u => simp at hl
  | t :: ts, va, vb, as, bs, F, H, b, ia, ib, hl, nd, fr => by
    cases ia with
    | nil => simp at hl
    | cons x ta =>
      cases ib with
      | nil => simp at hl
      | cons y tb =>
        obtain ⟨F2, x2, f2, _, b2, i2⟩ := wk_new b (fr t (by simp)) x y
        obtain ⟨nt, nd2⟩ := List.nodup_cons.mp nd
        obtain ⟨F3, x3, f3, b3, i3⟩ := lay_B ts b2 (ta.mono x2 (Pre.refl ca)) (tb.mono x2 (Pre.refl ca)) (by simpa using hl) nd2 (fun u hu => by
          rw [upd_ne (fun z : u = t => nt (z ▸ hu))]
          exact fr u (List.mem_cons_of_mem _ hu))
        refine ⟨F3, x2.trans x3, fun c o hc n => f3 c o ?_ (f2 c o hc n), b3, .cons (i2.mono x3 (Pre.refl ca)) i3⟩
        rw [upd_ne (ne_of_none hc (fr t (by simp)))]
        exact hc
end
noncomputable def dListZip (ga : DA) : DE := fun s => bindIR (iA zipU ga s) fun xs s1 => .nl xs s1
section
variable {X : Cx} {cl : Cl} {e : Ent} {W : WX}
theorem rd_listZip {ga : DA} {σ : L2.St} {H : Hp} {Q : VK} (h : rd X.K cl e W (dListZip ga) σ H Q) : tZipL X.K (rdA X.K cl e W ga) σ H Q := by
  obtain ⟨F, ca, s, b, q⟩ := h
  refine use_iAR b q fun vs ds xs s1 F1 H1 ca1 b1 i1 hk q1 => ?_
  obtain ⟨da, db, as, bs, rfl, e1, e2, rfl⟩ := zipU_eq hk
  cases i1 with
  | cons ia it =>
    cases it with
    | cons ib it =>
      cases it
      obtain ⟨a, va, rfl, la, ja⟩ := frL_ok ia e1
      obtain ⟨c, vb, rfl, lb, jb⟩ := frL_ok ib e2
      refine ⟨a, c, va, vb, rfl, ex_l b1.fh la, ex_l b1.fh lb, fun S ts hS nS nd fr hl => ?_⟩
      obtain ⟨F2, x2, f2, b2, i2⟩ := lay_B ts (b1.laid (o := .lst (ts.map V.ref)) hS) ja jb hl nd (fun t ht => by
        rw [upd_ne (fun z : t = S => nS (z ▸ ht))]
        exact fr t ht)
      exact q1 _ F2 _ ca1 b2 x2 (Pre.refl ca1) ⟨S, _, rfl, (layP_off ts _ _ nS).trans upd_same, i2, f2 S _ upd_same (b1.notF hS), b1.notca hS, b1.notH0 hS⟩
theorem e_listZip {a b : Expr} {ga : DA} {p pz pos posz : Pos} (hc : X.calm = true) (hg : Gl X "list") (hm : X.mg "list" = none) (hgz : Gl X "zip") (hmz : X.mg "zip" = none) (ha : PAd X cl e W [a, b] ga)
    (na : starEach [.Call (.Name "zip" pz) [a, b] [] posz] X.env = (false, eval (.Call (.Name "zip" pz) [a, b] [] posz) X.env) :: starEach [] X.env := by rfl)
    (hs : starEach [a, b] X.env = (false, eval a X.env) :: starEach [b] X.env := by rfl) (hpl : (backTo posz (starEach [b] X.env)).any (·.1) = false := by rfl) :
    PEd X cl e W (.Call (.Name "list" p) [.Call (.Name "zip" pz) [a, b] [] posz] [] pos) (dListZip ga) :=
  pe_w (pe_listZip hc hg hm hgz hmz ha na hs hpl) fun _ _ _ q => rd_listZip q
theorem r_listZip {f g : DE} {as bs : List D} {s s1 s2 : S} (h1 : f s = .ok (.lst as) s1) (h2 : g s1 = .ok (.lst bs) s2) : dListZip (aCons f (aCons g aNil)) s = .nl (pairs as bs) s2 := by
  unfold dListZip iA
  rw [r_a2 h1 h2] <;> rfl
end
end Dv
set_option maxRecDepth 100000
set_option maxHeartbeats 4000000
/-! while, x += .., is None, a < b < c -/
namespace Dv
open PySem PySem.Spec PyProof.Rows L2
/-- so many turns at most -/
def wl (c : DB) (b : DS) : Nat → DS
  | 0, _ => .no
  | n + 1, s => bindBO (c s) fun t s1 => if t = true then loopK (b s1) (wl c b n) else .nx s1
open Classical in
/-- as many turns as it takes -/
noncomputable def sWhile (c : DB) (b : DS) : DS := fun s => if h : ∃ n, wl c b n s ≠ .no then wl c b h.choose s else .no
theorem wl_succ {c : DB} {b : DS} : ∀ (n : Nat) (s : S), wl c b n s ≠ .no → wl c b (n + 1) s = wl c b n s
  | 0, s, h => absurd rfl h
  | n + 1, s, h => by
    have h1 : (bindBO (c s) fun t s1 => if t = true then loopK (b s1) (wl c b n) else .nx s1) ≠ .no := h
    show (bindBO (c s) fun t s1 => if t = true then loopK (b s1) (wl c b (n + 1)) else .nx s1) = bindBO (c s) fun t s1 => if t = true then loopK (b s1) (wl c b n) else .nx s1
    cases e1 : c s with
    | ok t s1 =>
      rw [e1] at h1
      have h2 : (if t = true then loopK (b s1) (wl c b n) else O.nx s1) ≠ .no := h1
      show (if t = true then loopK (b s1) (wl c b (n + 1)) else O.nx s1) = if t = true then loopK (b s1) (wl c b n) else O.nx s1
      cases t with
      | false => rfl
      | true =>
        rw [if_pos rfl] at h2
        rw [if_pos rfl, if_pos rfl]
        cases e2 : b s1 with
        | nx s2 =>
          rw [e2] at h2
          exact wl_succ n s2 h2
        | ct s2 =>
          rw [e2] at h2
          exact wl_succ n s2 h2
        | _ => rfl
    | _ => rfl
theorem wl_add {c : DB} {b : DS} {n : Nat} {s : S} (h : wl c b n s ≠ .no) : ∀ k, wl c b (n + k) s = wl c b n s
  | 0 => rfl
  | k + 1 => by
    have ih := wl_add h k
    rw [← Nat.add_assoc, wl_succ (n + k) s (by rw [ih]; exact h), ih]
theorem r_while {c : DB} {b : DS} {s : S} {o : O} (n : Nat) (h : wl c b n s = o) (ho : o ≠ .no) : sWhile c b s = o := by
  have hx : ∃ n, wl c b n s ≠ .no := ⟨n, by rw [h]; exact ho⟩
  unfold sWhile
  rw [dif_pos hx]
  have hc := hx.choose_spec
  rcases Nat.le_total hx.choose n with z | z
  · obtain ⟨k, hk⟩ := Nat.exists_eq_add_of_le z
    rw [← wl_add hc k, ← hk, h]
  · obtain ⟨k, hk⟩ := Nat.exists_eq_add_of_le z
    have hn : wl c b n s ≠ .no := by rw [h]; exact ho
    rw [hk, wl_add hn k, h]
theorem wl_t {c : DB} {b : DS} {s s1 s2 : S} {n : Nat} {o : O} (hc : c s = .ok true s1) (hb : b s1 = .nx s2) (h : wl c b n s2 = o) : wl c b (n + 1) s = o := by
  show (bindBO (c s) fun t s1 => if t = true then loopK (b s1) (wl c b n) else .nx s1) = o
  rw [hc]
  show (if true = true then loopK (b s1) (wl c b n) else .nx s1) = o
  rw [if_pos rfl, hb]
  exact h
theorem wl_f {c : DB} {b : DS} {s s1 : S} {n : Nat} (hc : c s = .ok false s1) : wl c b (n + 1) s = .nx s1 := by
  show (bindBO (c s) fun t s1 => if t = true then loopK (b s1) (wl c b n) else .nx s1) = _
  rw [hc] <;> rfl
section
variable {X : Cx} {cl : Cl} {e : Ent} {W : WX} {f g h : DE}
theorem s_while {c : Expr} {bd : List Stmt} {dc : DB} {db : DS} {pos : Pos} (hp : PassesOwn (model X.prog X.w) X.A X.env X.xe) (hc : PTd X cl e W c dc) (hb : PSsd X cl e W bd db) : PSd X cl e W (.While c bd [] pos) (sWhile dc db) :=
  ps_w (ps_while hp hc hb) fun Dn σ H ⟨F, ca, s, b, q⟩ => by
    unfold sWhile at q
    split at q
    · rename_i hx
      refine ⟨fun m σ1 H1 => ∃ F1 ca1 s1, Bx X cl e F1 H1 ca1 σ1 s1 ∧ Ex F F1 ∧ Pre ca ca1 ∧ rdSK X.K cl e W F1 ca1 Dn (wl dc db m s1), ⟨_, F, ca, s, b, Ex.refl F, Pre.refl ca, q⟩, fun m σ1 H1 ⟨F1, ca1, s1, b1, x1, p1, q1⟩ => ?_⟩
      cases m with
      | zero => exact False.elim q1
      | succ n =>
        have q2 : rdSK X.K cl e W F1 ca1 Dn (bindBO (dc s1) fun t s2 => if t = true then loopK (db s2) (wl dc db n) else .nx s2) := q1
        refine useS_rdB b1 q2 fun t s2 F2 H2 ca2 b2 x2 p2 q3 => ?_
        cases t with
        | false => exact q3 σ1 F2 H2 ca2 b2 (Ex.refl F2) (Pre.refl ca2)
        | true =>
          rw [if_pos rfl] at q3
          rw [if_pos rfl]
          refine ⟨fun σ' H' => ∃ F1 ca1 s1, Bx X cl e F1 H' ca1 σ' s1 ∧ Ex F F1 ∧ Pre ca ca1 ∧ rdSK X.K cl e W F1 ca1 Dn (wl dc db n s1), fun σ' H' w => ⟨n, Nat.lt_succ_self n, w⟩, F2, ca2, s2, b2, ?_⟩
          cases e2 : db s2 with
          | nx s3 =>
            rw [e2] at q3
            exact fun σ3 F3 H3 ca3 b3 x3 p3 => ⟨F3, ca3, s3, b3, x1.trans (x2.trans x3), p1.trans (p2.trans p3), rdSK.back x3 p3 q3⟩
          | ct s3 =>
            rw [e2] at q3
            exact fun σ3 F3 H3 ca3 b3 x3 p3 => ⟨F3, ca3, s3, b3, x1.trans (x2.trans x3), p1.trans (p2.trans p3), rdSK.back x3 p3 q3⟩
          | bk s3 =>
            rw [e2] at q3
            exact q3
          | rt d s3 =>
            rw [e2] at q3
            exact q3
          | rl d s3 =>
            rw [e2] at q3
            exact q3
          | ri c d s3 =>
            rw [e2] at q3
            exact q3
          | er xc s3 =>
            rw [e2] at q3
            exact q3
          | no =>
            rw [e2] at q3
            exact q3
    · exact False.elim q
/-! x op= .. of whole numbers -/
def augK (i : Nat) (k : Int → Int → Int) (a : D) (d : D) (s : S) : O := match a, d with
  | .int x, .int y => .nx ⟨s.sl.set i (some (.int (k x y))), s.ce, s.n0⟩
  | _, _ => .no
def sAug (i : Nat) (k : Int → Int → Int) (f : DE) : DS := fun s => match s.sl[i]? with
  | some (some a) => bindO (f s) fun d s1 => augK i k a d s1
  | _ => .no
theorem s_aug {i : Nat} {k : Int → Int → Int} {st : Stmt} (hst : PS X st (tAug i (rd X.K cl e W f) (ipI k))) : PSd X cl e W st (sAug i k f) := ps_w hst fun Dn σ H ⟨F, ca, s, b, q⟩ => by
  unfold sAug at q
  cases z : s.sl[i]? with
  | none =>
    rw [z] at q
    exact False.elim q
  | some o =>
    rw [z] at q
    cases o with
    | none => exact False.elim q
    | some a =>
      obtain ⟨v, h1, h2⟩ := b.slo i a z
      refine ⟨v, h1, useS_rd b q fun w d s1 F1 H1 ca1 b1 i1 x1 p1 q1 => ?_⟩
      have h3 := h2.mono x1 p1
      cases h3 with
      | int n =>
        cases i1 with
        | int m => exact ⟨n, m, rfl, rfl, q1 _ F1 H1 ca1 (b1.put (.int _)) (Ex.refl F1) (Pre.refl ca1)⟩
        | _ => exact False.elim q1
      | _ => cases i1 <;> exact False.elim q1
theorem r_aug {s s1 : S} {i : Nat} {k : Int → Int → Int} {x y : Int} (h0 : s.sl[i]? = some (some (.int x))) (hf : f s = .ok (.int y) s1) : sAug i k f s = .nx ⟨s1.sl.set i (some (.int (k x y))), s1.ce, s1.n0⟩ := by
  unfold sAug
  rw [h0]
  show bindO (f s) _ = _
  rw [hf] <;> rfl
/-! is None -/
theorem e_is {a b : Expr} {pos : Pos} (ha : PEd X cl e W a f) (hb : PEd X cl e W b g) (hm : behindInMarks .Is b = false := by rfl) : PEd X cl e W (.Compare a [.Is] [b] pos) (dOp (pIs false) f g) := d_cmp op_isN od_is ha hb hm
theorem c_is {a b : Expr} {pos : Pos} (ha : PEd X cl e W a f) (hb : PEd X cl e W b g) (hm : behindInMarks .Is b = false := by rfl) : PTd X cl e W (.Compare a [.Is] [b] pos) (bTest (dOp (pIs false) f g)) := t_cmp op_isN od_is ha hb hm
/-! a < b < c of whole numbers -/
def chK (h : DE) (a b : D) (s : S) : R := match a, b with
  | .int x, .int y => if x < y then bindR (h s) fun c s1 => (match c with
    | .int z => .ok (.bl (decide (y < z))) s1
    | _ => .no) else .ok (.bl false) s
  | _, _ => .no
def dChLL (f g h : DE) : DE := fun s => bindR (f s) fun a s1 => bindR (g s1) fun b s2 => chK h a b s2
theorem rd_chLL {σ : L2.St} {H : Hp} {Q : VK} (q : rd X.K cl e W (dChLL f g h) σ H Q) :
    tChain (rI0 fun i j => .bl (decide (i < j))) (rI0 fun i j => .bl (decide (i < j))) (rd X.K cl e W f) (rd X.K cl e W g) (rd X.K cl e W h) σ H Q := by
  obtain ⟨F, ca, s, b, q⟩ := q
  refine use_rd b q fun v1 d1 s1 F1 H1 ca1 b1 i1 x1 p1 q1 => ?_
  refine use_rd b1 q1 fun v2 d2 s2 F2 H2 ca2 b2 i2 x2 p2 q2 => ?_
  cases i1 with
  | int x =>
    cases i2 with
    | int y =>
      refine ⟨x, y, rfl, rfl, _, rfl, ?_⟩
      have q3 : rdK X.K cl e W σ F2 ca2 Q (if x < y then bindR (h s2) fun c s1 => (match c with
        | .int z => .ok (.bl (decide (y < z))) s1
        | _ => .no) else .ok (.bl false) s2) := q2
      by_cases hz : x < y
      · rw [if_pos hz] at q3
        rw [if_pos (decide_eq_true hz)]
        refine use_rd b2 q3 fun v3 d3 s3 F3 H3 ca3 b3 i3 x3 p3 q4 => ?_
        cases i3 with
        | int z => exact ⟨y, z, rfl, rfl, q4 _ F3 H3 ca3 b3 (Ex.refl F3) (Pre.refl ca3) (.bl _)⟩
        | _ => exact False.elim q4
      · rw [if_neg hz] at q3
        rw [if_neg (by rw [decide_eq_false hz]; decide)]
        exact q3 _ F2 H2 ca2 b2 (Ex.refl F2) (Pre.refl ca2) (.bl _)
    | _ => exact False.elim q2
  | _ => cases i2 <;> exact False.elim q2
theorem e_chLL {a b c : Expr} {pos : Pos} (ha : PEd X cl e W a f) (hb : PEd X cl e W b g) (hc : PEd X cl e W c h) (hm : lastMarks [.Lt, .Lt] [b, c] = false := by with_unfolding_all rfl) : PEd X cl e W (.Compare a [.Lt, .Lt] [b, c] pos) (dChLL f g h) :=
  pe_w (pe_chain op_lt op_lt ha hb hc hm) fun _ _ _ q => rd_chLL q
theorem c_chLL {a b c : Expr} {pos : Pos} (ha : PEd X cl e W a f) (hb : PEd X cl e W b g) (hc : PEd X cl e W c h) (hm : lastMarks [.Lt, .Lt] [b, c] = false := by with_unfolding_all rfl) : PTd X cl e W (.Compare a [.Lt, .Lt] [b, c] pos) (bTest (dChLL f g h)) :=
  pt_w (pt_chain op_lt op_lt ha hb hc hm) fun _ _ _ q => rd_chLL (rd_test q)
theorem r_chLL_t {s s1 s2 s3 : S} {x y z : Int} (h1 : f s = .ok (.int x) s1) (h2 : g s1 = .ok (.int y) s2) (hz : x < y) (h3 : h s2 = .ok (.int z) s3) : dChLL f g h s = .ok (.bl (decide (y < z))) s3 := by
  unfold dChLL
  rw [h1]
  show bindR (g s1) _ = _
  rw [h2]
  show (if x < y then bindR (h s2) fun c s1 => (match c with
    | .int z => R.ok (.bl (decide (y < z))) s1
    | _ => .no) else .ok (.bl false) s2) = _
  rw [if_pos hz, h3] <;> rfl
theorem r_chLL_f {s s1 s2 : S} {x y : Int} (h1 : f s = .ok (.int x) s1) (h2 : g s1 = .ok (.int y) s2) (hz : ¬ x < y) : dChLL f g h s = .ok (.bl false) s2 := by
  unfold dChLL
  rw [h1]
  show bindR (g s1) _ = _
  rw [h2]
  show (if x < y then bindR (h s2) fun c s1 => (match c with
    | .int z => R.ok (.bl (decide (y < z))) s1
    | _ => .no) else .ok (.bl false) s2) = _
  rw [if_neg hz]
end
end Dv
set_option maxRecDepth 100000
set_option maxHeartbeats 4000000
/-! x in o, o an instance of the text's class -/
namespace Dv
open PySem PySem.Spec PyProof.Rows L2
def boolR : R → R
  | .ok (.bl t) s => .ok (.bl t) s
  | .er x s => .er x s
  | _ => .no
def dInO (c0 : Nat) (m : Fn) (f g : DE) : DE := fun s => bindR (f s) fun d s1 => bindR (g s1) fun w s2 => boolR (ownK c0 2 m s2 [w, d] (instF c0 s2.ce w))
section
variable {X : Cx} {cl : Cl} {e : Ent} {W : WX} {a b : Expr} {f g : DE} {c0 k : Nat} {m : Fn} {fa : Addr} {fd : FuncData} {ps : List Str}
theorem boolR_w {F : Hp} {ca : List Addr} {σ : L2.St} {Q : VK} {r : R} (q : rdK X.K cl e W σ F ca Q (boolR r)) : rdK X.K cl e W σ F ca (fun v H => ∃ t : Bool, v = .bl t ∧ Q v H) r := by
  cases r with
  | ok d s =>
    cases d with
    | bl t =>
      intro v F' H' ca' b x p iv
      have z := q v F' H' ca' b x p iv
      cases iv
      exact ⟨t, rfl, z⟩
    | _ => exact False.elim q
  | er xc s => exact q
  | _ => exact False.elim q
theorem p_inO (Fo : FnOk X.prog X.w X.K X.mg X.base (L2.CX X.prog X.w) k fa fd ps (spD X.K cl 2 m)) (hr : Room k X.A) (hb : Binds X.K fd ps []) (tk : Takes X W)
    (hs : PySem.W.findIn X.K (.ref (cl c0)) "__contains__" = some (some (.ref fa))) (hf : PySem.W.isFn X.K (.ref fa) = true)
    (ha : PEd X cl e W a f) (hbb : PEd X cl e W b g) : PC X .In a b (rd X.K cl e W (dInO c0 m f g)) := by
  refine ⟨fun pins s σ H Q I h => ?_⟩
  obtain ⟨F, ca, s0, b0, q⟩ := h
  refine thn (ha.run pins s σ H _ I (use_rd b0 q fun v d s1 F1 H1 ca1 b1 i1 x1 p1 q1 => (⟨d, s1, F1, ca1, b1, i1, q1⟩ : ∃ d s1 F1 ca1, Bx X cl e F1 H1 ca1 σ s1 ∧ Is X.K cl F1 ca1 v d ∧ rdK X.K cl e W σ F1 ca1 Q (bindR (g s1) fun w s2 => boolR (ownK c0 2 m s2 [w, d] (instF c0 s2.ce w)))))) fun u s1 ⟨v, H1, I1, r1, d, t1, F1, ca1, b1, i1, q1⟩ => ?_
  refine thn (hbb.run pins s1 σ H1 _ I1 (use_rd b1 q1 fun v2 w t2 F2 H2 ca2 b2 i2 x2 p2 q2 => (⟨w, t2, F2, ca2, b2, i1.mono x2 p2, i2, q2⟩ : ∃ w t2 F2 ca2, Bx X cl e F2 H2 ca2 σ t2 ∧ Is X.K cl F2 ca2 v d ∧ Is X.K cl F2 ca2 v2 w ∧ rdK X.K cl e W σ F2 ca2 Q (boolR (ownK c0 2 m t2 [w, d] (instF c0 t2.ce w)))))) fun u2 s2 ⟨v2, H2, I2, r2, w, t2, F2, ca2, b2, j1, j2, q2⟩ => ?_
  obtain ⟨hsp, fs, e2⟩ := own_sp (o := instF c0 t2.ce w) b2 (.cons j2 (.one j1)) (boolR_w q2)
  obtain ⟨p, dx, vs, rfl, hH, hi⟩ := inst_ok b2 j2 e2
  obtain rfl : u2 = Value.ref p := r2
  obtain ⟨mA, J, _⟩ := ins_get I2.hok hH
  obtain ⟨od, J, _⟩ := J.look
  obtain ⟨mm, hF⟩ := I2.fr
  refine PySem.W.in_K hF I2.ok.mod.kin J hs hf (thn (run_fnS (E := WE W) (vs := [.ref p, v]) Fo hr hb (passAt tk σ) I2 (.cons rfl (.cons r1 .nil)) hsp) fun u3 s3 z => ?_)
  obtain ⟨v3, H3, I3, r3, t, rfl, q3⟩ := z
  obtain rfl : u3 = Value.bool t := r3
  exact wpAny_truthy_bool ⟨.bl t, H3, I3, rfl, q3⟩
theorem c_inO {pos : Pos} (h1 : behindInMarks .In b = false) (hh : PC X .In a b (rd X.K cl e W f)) : PTd X cl e W (.Compare a [.In] [b] pos) (bTest f) := pt_w (pt_cmp hh h1) fun _ _ _ q => rd_test q
theorem e_inO {pos : Pos} (h1 : behindInMarks .In b = false) (hh : PC X .In a b (rd X.K cl e W f)) : PEd X cl e W (.Compare a [.In] [b] pos) f := pe_cmp hh h1
end
end Dv
set_option maxRecDepth 100000
set_option maxHeartbeats 4000000
/-! repr of data; promises of defs that are run where no repr is under way -/
namespace Dv
open PySem PySem.Spec PyProof.Rows L2

/-! ### data with cells in it -/
section
variable (c : Nat → Option PyData)
mutual
def toPg : D → Option PyData
  | .non => some .none
  | .bl b => some (.bool b)
  | .int i => some (.int i)
  | .str s => some (.str s)
  | .lst xs => (toPgs xs).map .list
  | .ro xs => (toPgs xs).map .list
  | .tup xs => (toPgs xs).map .tuple
  | .obj _ _ => none
  | .rf j => c j
def toPgs : List D → Option (List PyData)
  | [] => some []
  | d :: ds => match toPg d, toPgs ds with
    | some p, some ps => some (p :: ps)
    | _, _ => none
end
end
def cellN (ce : List Cell) (c : Nat → Option PyData) : Nat → Option PyData := fun j => match cellL ce[j]? with
  | some xs => (toPgs c xs).map .list
  | none => none
def noCell : Nat → Option PyData := fun _ => none
def toP3 (ce : List Cell) : D → Option PyData := toPg (cellN ce (cellN ce (cellN ce noCell)))
section
variable {K : PySem.W.Frag} {cl : Cl} {F H : Hp} {ca : List Addr} {c : Nat → Option PyData}
mutual
theorem toPg_ok (x : Ex F H) (hc : ∀ j v p, Is K cl F ca v (.rf j) → c j = some p → Dp K H v p) : ∀ {v : V} {d : D} {p : PyData}, Is K cl F ca v d → toPg c d = some p → Dp K H v p
  | _, .non, _, .non, q => by
    cases q
    exact .non
  | _, .bl _, _, .bl b, q => by
    cases q
    exact .bl b
  | _, .int _, _, .int b, q => by
    cases q
    exact .int b
  | _, .str _, _, .str b, q => by
    cases q
    exact .str b
  | _, .lst xs, _, .lst h l, q => by
    have q' : (toPgs c xs).map PyData.list = some _ := q
    obtain ⟨ps, e, rfl⟩ := Option.map_eq_some_iff.mp q'
    exact .lst (SqL.of (x _ _ h)) (toPgs_ok x hc l e)
  | _, .ro xs, _, .ro h l, q => by
    have q' : (toPgs c xs).map PyData.list = some _ := q
    obtain ⟨ps, e, rfl⟩ := Option.map_eq_some_iff.mp q'
    exact .lst (ex_l x h) (toPgs_ok x hc l e)
  | _, .tup xs, _, .tup h l, q => by
    have q' : (toPgs c xs).map PyData.tuple = some _ := q
    obtain ⟨ps, e, rfl⟩ := Option.map_eq_some_iff.mp q'
    exact .tup (ex_t x h) (toPgs_ok x hc l e)
  | _, .rf j, _, h, q => hc j _ _ h q
theorem toPgs_ok (x : Ex F H) (hc : ∀ j v p, Is K cl F ca v (.rf j) → c j = some p → Dp K H v p) : ∀ {v : List V} {d : List D} {p : List PyData}, IsL K cl F ca v d → toPgs c d = some p → DpAll K H v p
  | _, [], _, .nil, q => by
    cases q
    exact .nil
  | _, d :: ds, _, .cons h l, q => by
    have q' : (match toPg c d, toPgs c ds with
      | some p, some ps => some (p :: ps)
      | _, _ => none) = some _ := q
    cases e1 : toPg c d with
    | none =>
      rw [e1] at q'
      cases q'
    | some p =>
      rw [e1] at q'
      cases e2 : toPgs c ds with
      | none =>
        rw [e2] at q'
        cases q'
      | some ps =>
        rw [e2] at q'
        cases q'
        exact .cons (toPg_ok x hc h e1) (toPgs_ok x hc l e2)
end
end
section
variable {K : PySem.W.Frag} {cl : Cl} {e : Ent} {F H : Hp} {ca : List Addr} {σ : L2.St} {s : S} {c : Nat → Option PyData}
theorem cellN_ok (b : B K cl e F H ca σ s) (hc : ∀ j v p, Is K cl F ca v (.rf j) → c j = some p → Dp K H v p) : ∀ j v p, Is K cl F ca v (.rf j) → cellN s.ce c j = some p → Dp K H v p := by
  intro j v p i q
  unfold cellN at q
  cases e1 : cellL s.ce[j]? with
  | none =>
    rw [e1] at q
    cases q
  | some xs =>
    rw [e1] at q
    have q' : (toPgs c xs).map PyData.list = some p := q
    obtain ⟨ps, e2, rfl⟩ := Option.map_eq_some_iff.mp q'
    obtain ⟨a, vs, rfl, hl, hi⟩ := look_ok b i (xs := xs) e1
    exact .lst hl (toPgs_ok b.fh hc hi e2)
theorem toP3_ok {v : V} {d : D} {p : PyData} (b : B K cl e F H ca σ s) (h : Is K cl F ca v d) (q : toP3 s.ce d = some p) : Dp K H v p :=
  toPg_ok b.fh (cellN_ok b (cellN_ok b (cellN_ok b fun _ _ _ _ z => by cases z))) h q
end

/-! ### repr -/
/-- data whose repr is asked for -/
def rpOk (p : PyData) : Prop := p.showable = true ∧ p.hasDict = false ∧ p.depth ≤ 50 ∧ p.shown.length ≤ 1000000
instance (p : PyData) : Decidable (rpOk p) := by unfold rpOk; infer_instance
def rRepr (K : PySem.W.Frag) : List V → Hp → VK → Prop := fun xs H Q => ∃ v p, xs = [v] ∧ Dp K H v p ∧ rpOk p ∧ Q (.str p.shown) H
def reprK : Option PyData → Po
  | some p => if rpOk p then .v (.str p.shown) else .no
  | none => .no
def reprD (ce : List Cell) (d : D) : Po := reprK (toP3 ce d)
section
variable {X : Cx} {cl : Cl} {e : Ent}
theorem cr_repr (hg : X.A.guards = some []) (hu : X.A.units + 100 < cLine) : CallR X (.builtin "repr") (rRepr X.K) := by
  intro pins s σ H xs us Q I r h
  obtain ⟨v, p, rfl, hp, ⟨o1, o2, o3, o4⟩, q⟩ := h
  cases r with
  | cons r1 rn =>
    cases rn
    have hz : p.shown.length ≤ sizeLine := Nat.le_trans o4 (by decide)
    obtain ⟨as, rd⟩ := Dp.reads I p v _ hp r1
    cases hp with
    | non =>
      cases (show _ = Value.none from r1)
      exact PySem.P.repr_of_none ⟨.str _, H, I.tok _, ⟨_, rfl⟩, by rw [PyData.shown_none] at q; exact q⟩
    | bl b =>
      cases (show _ = Value.bool b from r1)
      exact PySem.P.repr_of_bool ⟨.str _, H, I.tok _, ⟨_, rfl⟩, by rw [PyData.shown_bool] at q; exact q⟩
    | int i =>
      obtain ⟨t, rfl⟩ := r1
      exact PySem.P.repr_of_int (by simpa [PyData.showable] using o1) ⟨.str _, H, I.tok _, ⟨_, rfl⟩, by rw [PyData.shown_int] at q; exact q⟩
    | str x =>
      obtain ⟨t, rfl⟩ := r1
      rw [PyData.shown_str] at hz q
      exact PySem.P.repr_of_str ⟨.str _, H, I.tok _, ⟨_, rfl⟩, q⟩ hz
    | lst hs ha =>
      cases r1
      exact repr_of_reads' rd o1 (PyData.noDict_hsm o2) hg (by omega) (fun _ _ z => z) (fun h' u tk hk => ⟨.str _, H, I.kept hk, ⟨_, rfl⟩, q⟩) hz
    | tup hs ha =>
      cases r1
      exact repr_of_reads' rd o1 (PyData.noDict_hsm o2) hg (by omega) (fun _ _ z => z) (fun h' u tk hk => ⟨.str _, H, I.kept hk, ⟨_, rfl⟩, q⟩) hz
theorem bd_repr : BiD X cl e (rRepr X.K) (b1 reprD) := bd1 fun F H ca σ s v d b i => by
  unfold reprD
  cases e1 : toP3 s.ce d with
  | none => trivial
  | some p => exact .ite fun hz => .val b (.str _) fun Q q => ⟨v, p, rfl, toP3_ok b i e1, hz, q⟩
end
end Dv
set_option maxRecDepth 100000
set_option maxHeartbeats 4000000
/-! defs that are run where no repr is under way -/
namespace Dv
open PySem PySem.Spec PyProof.Rows L2

/-- as FnOk, but asked for only where no guard is up -/
structure FnG (P : Program) (w : World) (K : PySem.W.Frag) (mg : Str → Option Value) (base : Heap) (CX : CXT) (k : Nat) (f : Addr) (fd : FuncData) (ps : List Str) (sp : Sp) : Prop where
  size : ∀ vs H Q E, sp vs H Q E → vs.length = ps.length
  does : ∀ (A : Around) (outer : List Env) (s : Shared) (H : Hp) (args : Args) (us : List Value) (vs : List V) (Q : VK) (E : XK), A.guards = some [] → Room k A → Env0 P w K mg base A outer s H →
    BindsTo s fd args (ps.zip us) → Vals vs us → sp vs H Q E → codeAny (model P w) A (.call (.ref f) args) (CR CX outer P w H s Q E) s
theorem FnG.of {P : Program} {w : World} {K : PySem.W.Frag} {mg : Str → Option Value} {base : Heap} {CX : CXT} {k : Nat} {f : Addr} {fd : FuncData} {ps : List Str} {sp : Sp} (o : FnOk P w K mg base CX k f fd ps sp) : FnG P w K mg base CX k f fd ps sp :=
  ⟨o.len, fun A outer s H args us vs Q E _ => o.run A outer s H args us vs Q E⟩
theorem FnG.weak {P : Program} {w : World} {K : PySem.W.Frag} {mg : Str → Option Value} {base : Heap} {CX : CXT} {k : Nat} {f : Addr} {fd : FuncData} {ps : List Str} {sp sp' : Sp} (o : FnG P w K mg base CX k f fd ps sp) (h : ∀ vs H Q E, sp' vs H Q E → sp vs H Q E) : FnG P w K mg base CX k f fd ps sp' :=
  ⟨fun vs H Q E z => o.size vs H Q E (h _ _ _ _ z), fun A outer s H args us vs Q E hg hr e0 hb hv z => o.does A outer s H args us vs Q E hg hr e0 hb hv (h _ _ _ _ z)⟩

section
variable {P : Program} {w : World} {K : PySem.W.Frag} {mg : Str → Option Value} {base : Heap} {cl : Cl}
/-- a def by the reading of its body, chosen at each entry -/
theorem FnG.make {x qual : Str} {st : Stmt} {f : Addr} {fd : FuncData} {N ps : List Str} {k : Nat} {sp : Sp} (Fu : L2.Fun K x qual st f fd) (Sc : FnScope N ps (defScope st)) (hlen : ∀ vs H Q E, sp vs H Q E → vs.length = ps.length)
    (body : ∀ (cdv : Value) (A : Around) (outer : List Env) (s : Shared) (H : Hp) (vs : List V) (Q : VK) (E : XK), A.guards = some [] → Room k (A.deeper (envOfC qual (defScope st) s.heap.objs.size f cdv)) → sp vs H Q E →
      ∃ t, PSs (cxOf (L2.CX P w) P w K mg base N qual (defScope st) f cdv A outer s H E) (defBody st) t ∧ t { nx := fun _ H' => Q .non H', rt := Q } (start N vs) H) : FnG P w K mg base (L2.CX P w) (k + 1) f fd ps sp := by
  obtain ⟨oc, od, kV, doc, pm, an, cdv, ct, osl, rfl, lk, hcd⟩ := Fu.ex
  refine ⟨hlen, ?_⟩
  intro A outer s H args us vs Q E hg hr e0 hb hv hsp
  have inK : K.In s.heap := e0.mod.kin.keeps (fun b o z => (e0.bs b o z).1)
  have unlim : s.heap.NoLimit := e0.mod.nolimit.keeps (fun b o z => (e0.bs b o z).1)
  have kinds : ∀ y ∈ ps.zip us, (defScope st).names.lookup y.1 = some .local ∨ ((defScope st).names.lookup y.1 = some .cell ∧ ((cellsFrom (s.heap.objs.size + 1) (defScope st).names []).lookup y.1).isSome = true) := by
    intro y hy
    obtain ⟨n, v⟩ := y
    cases Sc.par n (List.of_mem_zip hy).1 with
    | inl z => exact Or.inl z
    | inr z => exact Or.inr ⟨z, PySem.W.cellsFrom_some _ _ _ (Or.inl z)⟩
  apply codeAny_call_function hr.depth (inK _ _ lk) rfl Sc.co Sc.gen rfl (PySem.W.codeRec_of inK hcd)
  apply hb
  apply wpAny_newFunctionEnv_cells Sc.kind kinds
  intro env henv s1 inc
  subst henv
  refine ⟨unlim.keeps inc.toInCall.keep, ?_⟩
  apply codeAny_func
  obtain ⟨t, pt, ht⟩ := body cdv A outer s H vs Q E hg (hr.deeper _) hsp
  have J0 : Inv (cxOf (L2.CX P w) P w K mg base N qual (defScope st) f cdv A outer s H E) [] (start N vs) H s1 := inv_start Sc hr.hd e0 (hlen _ _ _ _ hsp) hv inc
  refine wpAny_mono (pt.run [] s1 (start N vs) H _ J0 ht) ?_ (fun _ _ z => z)
  intro fl s' z
  cases fl with
  | ret u =>
    obtain ⟨v, σ', H', J, rv, q⟩ := z
    exact ⟨v, H', J.os, J.bare, J.base, J.hok, rv, q⟩
  | next =>
    obtain ⟨σ', H', J, q⟩ := z
    exact ⟨V.non, H', J.os, J.bare, J.base, J.hok, rfl, q⟩
  | brk =>
    obtain ⟨_, _, _, q⟩ := z
    exact q.elim
  | cont =>
    obtain ⟨_, _, _, q⟩ := z
    exact q.elim
/-- a def by its body and its function -/
theorem def_g {x qual : Str} {st : Stmt} {f : Addr} {fd : FuncData} {N ps : List Str} {k n : Nat} {m : Fn} {b : DS} (Fu : L2.Fun K x qual st f fd) (Sc : FnScope N ps (defScope st)) (hn : ps.length = n) (hN : n ≤ N.length) (hd : Does N.length b m)
    (hb : ∀ (cdv : Value) (A : Around) (outer : List Env) (s : Shared) (H : Hp) (E : XK) (e : Ent), (cxOf (L2.CX P w) P w K mg base N qual (defScope st) f cdv A outer s H E).A.guards = some [] → Room k (A.deeper (envOfC qual (defScope st) s.heap.objs.size f cdv)) →
      Takes (cxOf (L2.CX P w) P w K mg base N qual (defScope st) f cdv A outer s H E) (fun cls d _ H => E cls d H) →
      PSsd (cxOf (L2.CX P w) P w K mg base N qual (defScope st) f cdv A outer s H E) cl e (fun cls d _ H => E cls d H) (defBody st) b) : FnG P w K mg base (L2.CX P w) (k + 1) f fd ps (spD K cl n m) := by
  refine FnG.make Fu Sc (fun vs H Q E h => h.1.trans hn.symm) fun cdv A outer s H vs Q E hg hr h => ?_
  obtain ⟨e, q⟩ := body_ok (X := cxOf (L2.CX P w) P w K mg base N qual (defScope st) f cdv A outer s H E) hN hd h
  exact ⟨_, hb cdv A outer s H E e hg hr (takes_of rfl rfl rfl rfl), q⟩
end

/-! ### calls -/
section
variable {X : Cx} {cl : Cl} {e : Ent} {W : WX} {ga : DA}
theorem g_run {CX : CXT} {k : Nat} {f : Addr} {fd : FuncData} {ps : List Str} {sp : Sp} {E : L2.St → XK} {pins : List (Addr × Obj)} {σ : L2.St} {H : Hp} {s : Shared} {Q : VK} {us : List Value} {vs : List V} (Fo : FnG X.prog X.w X.K X.mg X.base CX k f fd ps sp) (hg : X.A.guards = some [])
    (hr : Room k X.A) (hb : Binds X.K fd ps []) (hx : PassesAt CX X σ (E σ)) (I : Inv X pins σ H s) (r : Vals vs us) (h : sp vs H Q (E σ)) : wpAny (model X.prog X.w) X.A (call (.ref f) us) (EP X pins σ Q) X.xe s := by
  have n1 : us.length = ps.length := r.length.symm.trans (Fo.size _ _ _ _ h)
  have b := hb s us I.kIn (by rw [List.append_nil]; exact n1)
  rw [List.append_nil] at b
  apply wpAny_call
  apply codeAny_mono (Fo.does X.A X.stack s H ⟨us, []⟩ us vs Q (E σ) hg hr I.env0 b r h)
  intro res s' z
  cases res with
  | error x => exact hx pins H s x s' I z
  | ok fl => cases fl with
    | ret u => exact I.after z
    | next => exact z.elim
    | brk => exact z.elim
    | cont => exact z.elim
theorem g_call {CX : CXT} {k : Nat} {f : Addr} {fd : FuncData} {ps : List Str} {sp : Sp} {E : L2.St → XK} {x : Str} {p pos : Pos} {a : Expr} {es : List Expr} {t : TA} (Fo : FnG X.prog X.w X.K X.mg X.base CX k f fd ps sp) (hgd : X.A.guards = some []) (hr : Room k X.A) (hg : Gl X x) (hm : X.mg x = some (.ref f))
    (hk : PySem.W.keepIn X.K (.ref f) = true) (hb : Binds X.K fd ps []) (hx : ∀ σ, PassesAt CX X σ (E σ)) (ha : PA X (a :: es) t) (hdb : (x == ("__debug__" : Str)) = false) (he : starEach (a :: es) X.env = (false, eval a X.env) :: starEach es X.env)
    (hpl : (backTo pos (starEach es X.env)).any (·.1) = false) : PE X (.Call (.Name x p) (a :: es) [] pos) (tCallS sp E t) := by
  constructor
  intro pins s σ H Q I h
  apply wpAny_Call_Name_kw
  apply ld_glob I hg hm ?_ hdb
  exact PySem.W.callWith_K (h₀ := X.base) I.ok.mod.kin hk (thn (ha.run pos pins s σ H _ I h) fun us s1 z => by
    obtain ⟨vs, H1, I1, r, q⟩ := z
    exact ⟨I1.kIn, g_run Fo hgd hr hb (hx σ) I1 r q⟩) he hpl
theorem d_callG {n : Nat} {m : Fn} {k : Nat} {f : Addr} {fd : FuncData} {ps : List Str} {x : Str} {p pos : Pos} {a : Expr} {es : List Expr} (Fo : FnG X.prog X.w X.K X.mg X.base (L2.CX X.prog X.w) k f fd ps (spD X.K cl n m)) (hgd : X.A.guards = some []) (hr : Room k X.A) (hg : Gl X x) (hm : X.mg x = some (.ref f)) (hk : PySem.W.keepIn X.K (.ref f) = true)
    (hb : Binds X.K fd ps []) (tk : Takes X W) (ha : PAd X cl e W (a :: es) ga) (hdb : (x == ("__debug__" : Str)) = false := by decide) (he : starEach (a :: es) X.env = (false, eval a X.env) :: starEach es X.env := by rfl) (hpl : (backTo pos (starEach es X.env)).any (·.1) = false := by rfl) :
    PEd X cl e W (.Call (.Name x p) (a :: es) [] pos) (dCall n m ga) :=
  pe_w (g_call Fo hgd hr hg hm hk hb (fun σ => passAt tk σ) ha hdb he hpl) fun _ _ _ q => rd_call q
end
end Dv
set_option maxRecDepth 100000
set_option maxHeartbeats 4000000
/-! the head's goal from a law that is promised where no repr is under way -/
namespace Dv
open PySem PySem.Spec PyProof.Rows L2

section
variable {P : Program} {w : World} {K : PySem.W.Frag} {mg mb : Str → Option Value} {CX : CXT} {k : Nat} {fa a : Addr} {fd : FuncData} {x : Str} {sp : Sp} {s₁ : Shared} {vs : List Value} {ns : List Int}
/-- over an abstract heap that tracks nothing but the script -/
theorem g_core (inK : K.In s₁.heap) (gns : s₁.heap.Ns mainGlobals mg) (bns : s₁.heap.Ns builtinsNs mb) (bb : ∀ y : Str, y ≠ "__name__" → mb y = bootBuiltins y) (lim : s₁.heap.NoLimit) (gens : s₁.gens = #[])
    (ha : s₁.heap.get? a = some { cls := .type "list", data := .seq vs.toArray }) (rm : Room k callerA)
    (F : ∀ base : Heap, K.In base → base.Ns mainGlobals mg → FnG P w K mg base CX k fa fd [x] sp) (bind : ∀ (s : Shared) (u : Value), BindsTo s fd ⟨[u], []⟩ [(x, u)])
    (cx : ∀ H e s', CX [] H s₁ (fun _ _ _ => False) e s' → False)
    {H : Hp} (only : Only H) (pr : sp [.ref a] H (fun v _ => v = .bl true) fun _ _ _ => False) (hok : HOk P w H s₁.heap) (at_a : ∀ b, H b ≠ none → b = a) (notK : H a ≠ none → K.lookup a = none) :
    codeAny (model P w) callerA (.call (.ref fa) ⟨[.ref a], []⟩) (fun r s' => r = .ok (.ret (.bool true)) ∧ OldK s₁.heap s'.heap ∧ s'.os = s₁.os ∧ AllBare s'.gens) s₁ := by
  have free_of : ∀ {b : Addr}, (∀ u, H b = some u → False) → H b = none := by
    intro b z
    cases q : H b with
    | none => rfl
    | some u => exact (z u q).elim
  have keepNs : ∀ {b : Addr} {m : Str → Option Value}, s₁.heap.Ns b m → (hidT s₁.heap H).Ns b m := by
    intro b m z
    obtain ⟨o, es, ep, g, d, r⟩ := z
    refine ⟨o, es, ep, hidT_get g (free_of fun u q => ?_), d, r⟩
    have eb : b = a := at_a b (by rw [q]; exact Option.some_ne_none u)
    rw [eb, ha] at g
    cases g
    have d2 : Data.seq vs.toArray _ = Data.dict es ep := d
    cases d2
  have KB : K.In (hidT s₁.heap H) := by
    intro b o g
    refine hidT_get (inK b o g) (free_of fun u q => ?_)
    have eb : b = a := at_a b (by rw [q]; exact Option.some_ne_none u)
    have nk := notK (by rw [← eb, q]; exact Option.some_ne_none u)
    rw [eb, nk] at g
    cases g
  obtain ⟨mc, l1, l2⟩ := lim
  have M : Mod K mg (hidT s₁.heap H) := ⟨KB, keepNs gns, ⟨mb, keepNs bns, bb⟩, ⟨mc, keepNs l1, l2⟩⟩
  have E0 : Env0 P w K mg (hidT s₁.heap H) callerA [] s₁ H := ⟨rfl, M, fun b o g => of_hidT g, Nat.le_of_eq (hidT_size _ _), trivial, fun b z => absurd (show b ∈ ([] : List Addr) from z) (List.not_mem_nil), hok, .of_eq gens⟩
  refine codeAny_mono ((F _ KB (keepNs gns)).does callerA [] s₁ H ⟨[.ref a], []⟩ [.ref a] [.ref a] _ _ rfl rm E0 (bind s₁ (.ref a)) (.cons rfl .nil) pr) ?_
  intro res s' z
  cases res with
  | error y => exact (cx H y s' z).elim
  | ok fl => cases fl with
    | next => exact z.elim
    | brk => exact z.elim
    | cont => exact z.elim
    | ret u =>
      obtain ⟨v, H', os, bare, un, hok', rv, e1⟩ := z
      have e2 : v = .bl true := e1
      subst e2
      obtain rfl : u = Value.bool true := rv
      refine ⟨rfl, OldK.of_keep ?_, os, bare⟩
      intro b o g
      cases q : H b with
      | none => exact un.keep b o g q (fun z => absurd (show b ∈ ([] : List Addr) from z) (List.not_mem_nil)) (List.not_mem_nil)
      | some u =>
        cases only b with
        | inl z =>
          rw [q] at z
          cases z
        | inr z =>
          obtain ⟨ob, xs, z⟩ := z
          have y1 := (hok b _ z).1
          have y2 := (hok' b _ (un.frzs b ob _ z)).1
          rw [g] at y1
          cases y1
          exact y2
theorem g_law (inK : K.In s₁.heap) (gns : s₁.heap.Ns mainGlobals mg) (bns : s₁.heap.Ns builtinsNs mb) (bb : ∀ y : Str, y ≠ "__name__" → mb y = bootBuiltins y) (lim : s₁.heap.NoLimit) (gens : s₁.gens = #[])
    (ha : s₁.heap.get? a = some { cls := .type "list", data := .seq vs.toArray }) (hin : IntsAre vs ns) (size : ns.length ≤ sizeLine) (rm : Room k callerA)
    (F : ∀ base : Heap, K.In base → base.Ns mainGlobals mg → FnG P w K mg base CX k fa fd [x] sp) (bind : ∀ (s : Shared) (u : Value), BindsTo s fd ⟨[u], []⟩ [(x, u)])
    (pr : ∀ H : Hp, Only H → SqL K H a (ns.map V.int) → sp [.ref a] H (fun v _ => v = .bl true) fun _ _ _ => False)
    (cx : ∀ H e s', CX [] H s₁ (fun _ _ _ => False) e s' → False) :
    codeAny (model P w) callerA (.call (.ref fa) ⟨[.ref a], []⟩) (fun r s' => r = .ok (.ret (.bool true)) ∧ OldK s₁.heap s'.heap ∧ s'.os = s₁.os ∧ AllBare s'.gens) s₁ := by
  have rv := vals_ints hin
  cases hk : K.lookup a with
  | some o =>
    have g := inK a o hk
    rw [ha] at g
    cases g
    have on : Only fun _ => none := fun _ => Or.inl rfl
    refine g_core inK gns bns bb lim gens ha rm F bind cx on (pr _ on (.inr ⟨_, vs.toArray, _, hk, rfl, rfl, rfl, ?_, by simpa using rv⟩)) (fun b u z => ?_) (fun b z => absurd rfl z) (fun z => absurd rfl z)
    · rw [List.size_toArray, hin.length]
      exact size
    · have z2 : (none : Option HO) = some u := z
      cases z2
  | none =>
    have here : ∀ b, b = a → (if b = a then some (HO.frz { cls := .type "list", data := .seq vs.toArray } (.lst (ns.map V.int))) else none) = some (HO.frz { cls := .type "list", data := .seq vs.toArray } (.lst (ns.map V.int))) := fun b z => if_pos z
    have there : ∀ b, b ≠ a → (if b = a then some (HO.frz { cls := .type "list", data := .seq vs.toArray } (.lst (ns.map V.int))) else none) = none := fun b z => if_neg z
    have on : Only fun b => if b = a then some (.frz { cls := .type "list", data := .seq vs.toArray } (.lst (ns.map V.int))) else none := fun b => by
      by_cases z : b = a
      · exact Or.inr ⟨_, _, here b z⟩
      · exact Or.inl (there b z)
    refine g_core inK gns bns bb lim gens ha rm F bind cx on (pr _ on (.inl (.inr ⟨_, here a rfl⟩))) (fun b u z => ?_) (fun b z => ?_) (fun _ => hk)
    · by_cases y : b = a
      · cases (here b y).symm.trans z
        subst y
        exact ⟨ha, by rw [List.length_map]; exact size, vs, _, rv, ha⟩
      · cases (there b y).symm.trans z
    · by_cases y : b = a
      · exact y
      · exact absurd (there b y) z
end
/-- what the head leaves to be shown -/
theorem walk_g {l : PySem.W.OpenLaw} {n k : Nat} {q : Program} {loose : List Str} {XP : (Str → Option Value) → Heap → Prop} {YP : World → Heap → Prop} {d : DefRec} {K : Params → PySem.W.Frag} {CX : World → CXT} {sp : World → Sp} {x : Str}
    (most : l.most = some n) (n2 : n ≤ sizeLine) (nodef : d.params.defaults = []) (rm : Room k callerA) (hY : ∀ (w : World) (h : Heap), YP w h → (K w.params).In h)
    (F : ∀ (w : World) (mg : Str → Option Value) (fa : Addr) (h : Heap), (K w.params).In h → h.Ns mainGlobals mg → mg d.name = some (.ref fa) → ∃ fd : FuncData, (∀ (s : Shared) (u : Value), BindsTo s fd ⟨[u], []⟩ [(x, u)]) ∧
      ∀ base : Heap, (K w.params).In base → base.Ns mainGlobals mg → FnG l.prog w (K w.params) mg base (CX w) k fa fd [x] (sp w))
    (pr : ∀ (w : World) (H : Hp) (a : Addr) (ns : List Int), ns.length ≤ n → Only H → SqL (K w.params) H a (ns.map V.int) → sp w [.ref a] H (fun v _ => v = .bl true) fun _ _ _ => False)
    (cx : ∀ (w : World) (H : Hp) (s : Shared) (e : Value) (s' : Shared), CX w [] H s (fun _ _ _ => False) e s' → False) : PySem.W.WalkO q loose XP YP l.row.toRowW d [] (fun f vs => PySem.call f vs) := by
  apply Att.attach_call most nodef
  intro w s₀ s₁ mg mb fa o pm cd doc a vs ns G Y ho hd hcd hmg hobj hints hlen hg
  have inK := hY w _ Y
  obtain ⟨fd, hb, hF⟩ := F w mg fa _ inK G.T.g hmg
  exact g_law inK G.T.g G.T.b G.T.builtins G.T.nolimit hg hobj hints (Nat.le_trans hlen n2) rm hF hb (fun H hO hS => pr w H a ns hlen hO hS) (fun H e s' => cx w H s₁ e s')
end Dv
set_option maxRecDepth 100000
set_option maxHeartbeats 4000000
/-! xs.extend(ys), repr(x) -/
namespace Dv
open PySem PySem.Spec PyProof.Rows L2
section
variable {X : Cx} {cl : Cl} {e : Ent} {W : WX} {ga : DA} {a : Expr} {es : List Expr} {p pos : Pos}
def extK (j : Nat) (ys : List D) : Option (List D) → Mo
  | some xs => if xs.length + ys.length ≤ 100000 then .w j (.lst (xs ++ ys)) .non else .no
  | none => .no
def mExt (ce : List Cell) : D → List D → Mo
  | .rf j, [.lst ys] => extK j ys (cellL ce[j]?)
  | _, _ => .no
theorem md_ext : MtD X cl e rExtend mExt := fun F H ca σ s v d vs ds b i is => by
  cases d with
  | rf j =>
    cases is with
    | nil => trivial
    | cons i1 t =>
      cases t with
      | cons _ _ => cases i1 <;> trivial
      | nil =>
        cases i1 with
        | @lst p ws ys hF hi2 =>
          show MoK X cl e F H ca σ s _ (extK j ys (cellL s.ce[j]?))
          cases e1 : cellL s.ce[j]? with
          | none => trivial
          | some xs =>
            obtain ⟨q, zs, rfl, ha, hH, hi, hF0⟩ := cell_ok b i (cellL_eq e1)
            refine .ite fun hz => .wr b ha hF0 (hi.app hi2) .non fun Q r => ⟨q, p, zs, ws, rfl, rfl, hH, b.fh _ _ hF, ?_, r⟩
            rw [hi.length, hi2.length]
            exact Nat.le_trans hz (by decide)
        | _ => trivial
  | _ => cases is <;> trivial
theorem e_repr (hgd : X.A.guards = some []) (hu : X.A.units + 100 < cLine) (hg : Gl X "repr") (hz : X.mg "repr" = none) (ha : PAd X cl e W (a :: es) ga) (hst : starEach (a :: es) X.env = (false, eval a X.env) :: starEach es X.env := by rfl)
    (hpl : (backTo pos (starEach es X.env)).any (·.1) = false := by rfl) : PEd X cl e W (.Call (.Name "repr" p) (a :: es) [] pos) (dBi (b1 reprD) ga) :=
  pe_w (pe_callB (cr_repr hgd hu) hg hz (by decide +kernel) ha (by decide) (by decide) hst hpl) fun _ _ _ q => rd_bi bd_repr q
theorem room100 {k : Nat} {A : Around} (r : Room k A) : A.units + 100 < cLine := by
  have := r.un
  omega
end
end Dv
set_option maxRecDepth 100000
set_option maxHeartbeats 4000000
/-! sorted(d), d a dict of ints, any number of keys -/
namespace Dv
open PySem PySem.Spec PyProof.Rows L2
def rSrtD : List V → Hp → VK → Prop := fun xs H Q => ∃ (a : Addr) (kvs : List (Key × V)) (ks : List Int), xs = [.ref a] ∧ Rd H a (.dK kvs) ∧ kvs.map (·.1) = ks.map Sum.inl ∧ ks.length ≤ 1000000 ∧
  ∀ (p : Addr), H p = none → Q (.ref p) (upd H p (.lst ((isortI ks).map V.int)))
section
variable {X : Cx} {cl : Cl} {e : Ent}
theorem cr_srtD (hc : X.calm = true) : CallR X (.builtin "sorted") rSrtD := by
  intro pins s σ H xs us Q I r q
  obtain ⟨a, kvs, ks, rfl, hd, hks, hz, q⟩ := q
  obtain ⟨u, rfl, ru⟩ := vals1 r
  cases ru
  obtain ⟨_, lo, vs, rel, dd⟩ := dk_rd I.hok hd
  obtain ⟨ep, hat⟩ := dd.dictAt
  have keys : vs.map (·.1) = ks.map Sum.inl := rel.keys.symm.trans hks
  have n1 : vs.length = ks.length := by simpa using congrArg List.length keys
  have n2 : vs.length ≤ sizeLine := n1 ▸ Nat.le_trans hz (by decide)
  apply Calls.call_function_entry PyProof.Rows.kind_sorted PyProof.Rows.plain_sorted PyProof.Rows.entry_sorted (PyProof.Rows.args_sorted1 _)
  unfold Builtin.«sorted»
  apply wpAny_bind (m := checkCount "sorted" 1 1 _)
  apply wpAny_pure
  apply wpAny_bind
  apply PySem.W.kdu_collect (A := X.A.in1) (PySem.W.kdl_dict (knd := mixKind X.prog X.w) (kvs := vs) (ep := ep) lo) (I.ok.hd hc) hat n2
  intro h' tk acc old got
  have n3 : acc.toList.length = ks.length := by rw [Array.length_toList, got.1, n1]
  have hI : IntsAre acc.toList ks := by
    apply ints_each n3
    intro j v ev
    obtain ⟨k, x, e1, e2⟩ := got.2 j v (by rw [← Array.getElem?_toList]; exact ev)
    have e3 : (ks.map (Sum.inl : Int → Key))[j]? = some k := by
      rw [← keys, List.getElem?_map, e1] <;> rfl
    rw [List.getElem?_map] at e3
    cases e4 : ks[j]? with
    | none =>
      rw [e4] at e3
      cases e3
    | some y =>
      rw [e4] at e3
      cases Option.some.inj e3
      rcases keyIs_shape (show keyIs (Sum.inl y) v = true from e2) with ⟨i, t, ek, ev⟩ | ⟨z, t, ek, ev⟩
      · cases ek
        exact ⟨y, t, rfl, ev⟩
      · cases ek
  have J : Inv X pins σ H { s with heap := h', toks := tk } := I.kept old
  have n4 : acc.toList.length ≤ sizeLine := by
    rw [n3]
    exact Nat.le_trans hz (by decide)
  apply wpAny_bind
  apply wpAny_newList ?_ n4
  have new : (h'.push (seqObj "list" acc.toList.toArray 0)).get? h'.objs.size = some (seqObj "list" acc.toList.toArray 0) := Heap.get?_push_size _ rfl
  show wpAny _ _ _ _ _ { s with heap := h'.push (seqObj "list" acc.toList.toArray 0), toks := tk }
  apply wpAny_bind
  apply wpAny_holding
  refine wpAny_call_entry PyProof.Rows.slot_list_sort ⟨_, new, rfl⟩ PyProof.Rows.entry_list_sort ?_ (PyProof.Rows.args_list_sort _)
  refine SrtO.list_sort_ord (s := { s with heap := h'.push (seqObj "list" acc.toList.toArray 0), toks := tk }) SrtO.swo_int new n4 (fun h2 => SrtO.ints_sortable hI h2) ?_
  intro out h1 h2
  obtain ⟨k1, k2, k3⟩ := SrtO.ints_out hI h1 h2
  obtain ⟨ep2, gt⟩ := PyProof.Rows.sortedHeap_at (vs := acc.toList) (out := out.toArray) new
  refine ⟨_, rfl, wpAny_pure ⟨_, rfl, .ref h'.objs.size, upd H h'.objs.size (.lst ((out.map SrtO.iv).map V.int)), J.laid (t' := tk) (fun b u eb => ?_) (Nat.le_refl _) ⟨?_, out, ep2, vals_of_ints k1, gt⟩, rfl, ?_⟩⟩
  · have lt : b < h'.objs.size := Heap.lt_size eb
    rw [PyProof.Rows.sortedHeap_old (Nat.ne_of_lt lt) (by rw [size_push']; exact Nat.lt_succ_of_lt lt)]
    exact Heap.get?_push_of_some _ eb
  · rw [List.length_map, k2.length_eq]
    exact Nat.le_trans hz (by decide)
  · rw [sorted_one (k2.trans (isortI_perm ks).symm) k3 (isortI_sorted ks)]
    exact q _ (J.hok.fresh (Nat.le_refl _))
/-- the numbers that are a dict's keys -/
def keysI : List (Key × D) → Option (List Int)
  | [] => some []
  | (.inl i, _) :: r => (keysI r).map (i :: ·)
  | (.inr _, _) :: _ => none
theorem keysI_eq : ∀ {kvs : List (Key × D)} {ks : List Int}, keysI kvs = some ks → kvs.map (·.1) = ks.map Sum.inl
  | [], _, h => by
    cases h
    rfl
  | (.inl i, _) :: r, _, h => by
    have h' : (keysI r).map (i :: ·) = some _ := h
    obtain ⟨l, e1, rfl⟩ := Option.map_eq_some_iff.mp h'
    rw [List.map_cons, keysI_eq e1] <;> rfl
  | (.inr _, _) :: _, _, h => by cases h
theorem isK_keys {K : PySem.W.Frag} {F : Hp} {ca : List Addr} : ∀ {vs : List (Key × V)} {kvs : List (Key × D)}, IsK K cl F ca vs kvs → vs.map (·.1) = kvs.map (·.1)
  | _, _, .nil => rfl
  | _, _, .cons _ t => by rw [List.map_cons, List.map_cons, isK_keys t]
def srtK : Option (List Int) → Po
  | some ks => if ks.length ≤ 100000 then .l ((isortI ks).map .int) else .no
  | none => .no
def srtD (ce : List Cell) : D → Po
  | .rf j => match cellD ce[j]? with
    | some kvs => srtK (keysI kvs)
    | none => .no
  | _ => .no
theorem bd_srtD : BiD X cl e rSrtD (b1 srtD) := bd1 fun F H ca σ s v d b i => by
  cases d with
  | rf j =>
    show PoK X cl e F H ca σ s _ (match cellD s.ce[j]? with
      | some kvs => srtK (keysI kvs)
      | none => .no)
    cases e1 : cellD s.ce[j]? with
    | none => trivial
    | some kvs =>
      show PoK X cl e F H ca σ s _ (srtK (keysI kvs))
      cases e2 : keysI kvs with
      | none => trivial
      | some ks =>
        obtain ⟨a, vs, rfl, ha, hF, hH, hi⟩ := dic_ok b i e1
        refine .ite fun hz => ?_
        exact fun Q q => ⟨a, vs, ks, rfl, .inl hH, (isK_keys hi).trans (keysI_eq e2), by omega, fun p hp => q p _ hp (isL_ints _)⟩
  | _ => cases i <;> trivial
end
section
variable {X : Cx} {cl : Cl} {e : Ent} {W : WX} {ga : DA} {a : Expr} {es : List Expr} {p pos : Pos}
theorem e_srtD (hc : X.calm = true) (hg : Gl X "sorted") (hz : X.mg "sorted" = none) (ha : PAd X cl e W (a :: es) ga) (hst : starEach (a :: es) X.env = (false, eval a X.env) :: starEach es X.env := by rfl)
    (hpl : (backTo pos (starEach es X.env)).any (·.1) = false := by rfl) : PEd X cl e W (.Call (.Name "sorted" p) (a :: es) [] pos) (dBi (b1 srtD) ga) :=
  pe_w (pe_callB (cr_srtD hc) hg hz (by decide +kernel) ha (by decide) (by decide) hst hpl) fun _ _ _ q => rd_bi bd_srtD q
end
end Dv
set_option maxRecDepth 100000
set_option maxHeartbeats 4000000
/-! calls by keywords: f(k = v, ..), o.m(k = v, ..) -/
namespace Dv
open PySem PySem.Spec PyProof.Rows L2
/-- the items at some places -/
def pick {α : Type} (ix : List Nat) (l : List α) : List α := ix.filterMap (l[·]?)
theorem vals_pick {vs : List V} {us : List Value} (r : Vals vs us) : ∀ ix : List Nat, Vals (pick ix vs) (pick ix us)
  | [] => .nil
  | i :: ix => by
    have ih := vals_pick r ix
    unfold pick at ih ⊢
    cases e : vs[i]? with
    | some v =>
      obtain ⟨u, hu, rv⟩ := r.get e
      rw [List.filterMap_cons_some e, List.filterMap_cons_some hu]
      exact .cons rv ih
    | none =>
      have hu : us[i]? = none := by
        have l := r.length
        have n := List.getElem?_eq_none_iff.mp e
        exact List.getElem?_eq_none_iff.mpr (by omega)
      rw [List.filterMap_cons_none e, List.filterMap_cons_none hu]
      exact ih
theorem isL_pick {K : PySem.W.Frag} {cl : Cl} {F : Hp} {ca : List Addr} {vs : List V} {ds : List D} (r : IsL K cl F ca vs ds) : ∀ ix : List Nat, IsL K cl F ca (pick ix vs) (pick ix ds)
  | [] => .nil
  | i :: ix => by
    have ih := isL_pick r ix
    unfold pick at ih ⊢
    cases e : ds[i]? with
    | some d =>
      obtain ⟨v, hv, iv⟩ := r.get e
      rw [List.filterMap_cons_some e, List.filterMap_cons_some hv]
      exact .cons iv ih
    | none =>
      have hv : vs[i]? = none := by
        have l := r.length
        have n := List.getElem?_eq_none_iff.mp e
        exact List.getElem?_eq_none_iff.mpr (by omega)
      rw [List.filterMap_cons_none e, List.filterMap_cons_none hv]
      exact ih
/-- how n0 values and the keywords ks are bound -/
structure KwB (fd : FuncData) (ps : List Str) (n0 : Nat) (ks : List Str) (ix : List Nat) : Prop where
  to : ∀ (s : Shared) (us ws : List Value), us.length = n0 → ws.length = ks.length → BindsTo s fd ⟨us, ks.zip ws⟩ (ps.zip (pick ix (us ++ ws)))
theorem KwB.of {K : PySem.W.Frag} {x qual : Str} {st : Stmt} {f : Addr} {fd : FuncData} {ps ks : List Str} {n0 : Nat} {ix : List Nat} (Fu : L2.Fun K x qual st f fd)
    (h : ∀ (kV doc pm : Value) (an : Option Addr) (cdv ct : Value) (us ws : List Value), us.length = n0 → ws.length = ks.length → bindArgs (PySem.W.fnOf x qual (defArgs st) (defBody st) (defScope st) .none kV doc pm an cdv ct) ⟨us, ks.zip ws⟩ = pure (ps.zip (pick ix (us ++ ws)))) : KwB fd ps n0 ks ix := by
  obtain ⟨oc, od, kV, doc, pm, an, cdv, ct, osl, rfl, lk, hcd⟩ := Fu.ex
  exact ⟨fun s us ws h1 h2 => .of_eq (h kV doc pm an cdv ct us ws h1 h2)⟩
section
variable {X : Cx} {cl : Cl} {e : Ent} {W : WX} {ga : DA}
theorem kw_run {CX : CXT} {k n0 : Nat} {f : Addr} {fd : FuncData} {ps ks : List Str} {ix : List Nat} {sp : Sp} {E : L2.St → XK} {pins : List (Addr × Obj)} {σ : L2.St} {H : Hp} {s : Shared} {Q : VK} {us ws : List Value} {vs zs : List V} (Fo : FnOk X.prog X.w X.K X.mg X.base CX k f fd ps sp)
    (hr : Room k X.A) (kb : KwB fd ps n0 ks ix) (hx : PassesAt CX X σ (E σ)) (I : Inv X pins σ H s) (r : Vals vs us) (rz : Vals zs ws) (l0 : us.length = n0) (l1 : ws.length = ks.length) (h : sp (pick ix (vs ++ zs)) H Q (E σ)) :
    wpAny (model X.prog X.w) X.A (call (.ref f) us (ks.zip ws)) (EP X pins σ Q) X.xe s := by
  apply wpAny_call
  apply codeAny_mono (Fo.run X.A X.stack s H ⟨us, ks.zip ws⟩ (pick ix (us ++ ws)) (pick ix (vs ++ zs)) Q (E σ) hr I.env0 (kb.to s us ws l0 l1) (vals_pick (r.append rz) ix) h)
  intro res s' z
  cases res with
  | error x => exact hx pins H s x s' I z
  | ok fl => cases fl with
    | ret u => exact I.after z
    | next => exact z.elim
    | brk => exact z.elim
    | cont => exact z.elim
abbrev PKd (X : Cx) (cl : Cl) (e : Ent) (W : WX) (kws : List Keyword) (g : DA) : Prop := PK X kws (rdA X.K cl e W g)
theorem k_nil : PKd X cl e W [] aNil := ⟨fun pos pins s σ H Q I ⟨F, ca, s0, b, q⟩ => pk_nil.run pos pins s σ H Q I (q [] F H ca b (Ex.refl F) (Pre.refl ca) .nil)⟩
theorem k_cons {nm : Option Str} {a : Expr} {kpos : Pos} {kws : List Keyword} {f : DE} (ha : PEd X cl e W a f) (hr : PKd X cl e W kws ga) : PKd X cl e W (⟨nm, a, kpos⟩ :: kws) (aCons f ga) :=
  ⟨fun pos pins s σ H Q I ⟨F, ca, s0, b, q⟩ => (pk_cons ha hr).run pos pins s σ H Q I (by
    refine useA_rd b q fun v d s1 F1 H1 ca1 b1 i1 x1 p1 q1 => ?_
    refine useA_rdA b1 q1 fun vs ds s2 F2 H2 ca2 b2 i2 x2 p2 q2 => ?_
    exact q2 (v :: vs) F2 H2 ca2 b2 (Ex.refl F2) (Pre.refl ca2) (.cons (i1.mono x2 p2) i2))⟩
def kwK (n nk : Nat) (m : Fn) (ix : List Nat) (s : S) (hd ds : List D) : R := if ds.length = nk ∧ (pick ix (hd ++ ds)).length = n then frK s (m (pick ix (hd ++ ds)) s.ce) else .no
def dCallK (n nk : Nat) (m : Fn) (ix : List Nat) (g : DA) : DE := fun s => bindAR (g s) fun ds s1 => kwK n nk m ix s1 [] ds
theorem d_callK {n k : Nat} {m : Fn} {f : Addr} {fd : FuncData} {ps ks : List Str} {ix : List Nat} {x : Str} {p pos : Pos} {kws : List Keyword} (Fo : FnOk X.prog X.w X.K X.mg X.base (L2.CX X.prog X.w) k f fd ps (spD X.K cl n m)) (hr : Room k X.A) (hg : Gl X x) (hm : X.mg x = some (.ref f))
    (hk : PySem.W.keepIn X.K (.ref f) = true) (kb : KwB fd ps 0 ks ix) (tk : Takes X W) (hkw : PKd X cl e W kws ga) (hall : (backToKw pos (keywordEach kws X.env)).all (·.1.isSome) = true := by rfl) (hks : (backToKw pos (keywordEach kws X.env)).filterMap (·.1) = ks := by rfl)
    (hdb : (x == ("__debug__" : Str)) = false := by decide) (hpl : ((backTo pos (starEach [] X.env)).any (·.1) || (backToKw pos (keywordEach kws X.env)).any (·.1.isNone)) = false := by rfl) :
    PEd X cl e W (.Call (.Name x p) [] kws pos) (dCallK n ks.length m ix ga) := by
  refine ⟨fun pins s σ H Q I h => ?_⟩
  obtain ⟨F, ca, s0, b0, q⟩ := h
  apply wpAny_Call_Name_kw
  apply ld_glob I hg hm ?_ hdb
  apply PySem.W.callWith_KW0 (h₀ := X.base) I.ok.mod.kin hk hall ?_ hpl
  refine thn (hkw.run pos pins s σ H _ I (use_rdA b0 q fun vs ds s1 F1 H1 ca1 b1 i1 x1 p1 q1 => (⟨ds, s1, F1, ca1, b1, i1, q1⟩ : ∃ ds s1 F1 ca1, Bx X cl e F1 H1 ca1 σ s1 ∧ IsL X.K cl F1 ca1 vs ds ∧ rdK X.K cl e W σ F1 ca1 Q (kwK n ks.length m ix s1 [] ds)))) fun ws s2 ⟨zs, H2, I2, r2, ds, t2, F2, ca2, b2, j2, q3⟩ => ⟨I2.kIn, ?_⟩
  rw [hks]
  unfold kwK at q3
  by_cases hn : ds.length = ks.length ∧ (pick ix ([] ++ ds)).length = n
  · rw [if_pos hn] at q3
    have ip := isL_pick j2 ix
    exact kw_run (E := WE W) (us := []) (vs := []) Fo hr kb (passAt tk σ) I2 .nil r2 rfl (by rw [← r2.length, j2.length]; exact hn.1) (sp_of b2 (by rw [List.nil_append, ip.length]; exact hn.2) ip q3)
  · rw [if_neg hn] at q3
    exact False.elim q3
/-- o.m(k = v, ..) -/
def methKK (n nk : Nat) (nm : Str) (m : Fn) (ix : List Nat) (d : D) (ga : DA) (s1 : S) : Option (List (Str × D)) → R
  | some fs => if (fs.lookup nm).isNone = true then bindAR (ga s1) fun ds s2 => kwK n nk m ix s2 [d] ds else .no
  | none => .no
def dMethK (c0 n nk : Nat) (nm : Str) (m : Fn) (ix : List Nat) (f : DE) (ga : DA) : DE := fun s => bindR (f s) fun d s1 => methKK n nk nm m ix d ga s1 (instF c0 s1.ce d)
theorem d_methK {n k c0 : Nat} {m : Fn} {fa : Addr} {fd : FuncData} {ps ks : List Str} {ix : List Nat} {nm : Str} {apos pos : Pos} {kws : List Keyword} {o : Expr} {f : DE} {pl : Sem Bool} (Fo : FnOk X.prog X.w X.K X.mg X.base (L2.CX X.prog X.w) k fa fd ps (spD X.K cl n m)) (hr : Room k X.A)
    (kb : KwB fd ps 1 ks ix) (tk : Takes X W) (hc : Cls X.K (cl c0)) (hm : Meth X.K (cl c0) nm fa) (ho : PEd X cl e W o f) (hkw : PKd X cl e W kws ga)
    (hall : (backToKw pos (keywordEach kws X.env)).all (·.1.isSome) = true := by rfl) (hks : (backToKw pos (keywordEach kws X.env)).filterMap (·.1) = ks := by rfl) (hpl : ((backTo pos (starEach [] X.env)).any (·.1) || (backToKw pos (keywordEach kws X.env)).any (·.1.isNone)) = false := by rfl)
    (ht : eval (.Call (.Attribute o nm apos) [] kws pos) X.env = (eval o X.env >>= fun ov => standAt apos.atName >>= fun _ => holding [ov] (getMethod ov nm pl) >>= fun z => callWith pos z.1 z.2 (backTo pos (starEach [] X.env)) (backToKw pos (keywordEach kws X.env))) := by rfl) :
    PEd X cl e W (.Call (.Attribute o nm apos) [] kws pos) (dMethK c0 n ks.length nm m ix f ga) := by
  refine ⟨fun pins s σ H Q I h => ?_⟩
  obtain ⟨F, ca, s0, b0, q⟩ := h
  refine PySem.W.methodCall_KW (pl := pl) (thn (ho.run pins s σ H _ I (use_rd b0 q fun v d s1 F1 H1 ca1 b1 i1 x1 p1 q1 => (⟨d, s1, F1, ca1, b1, i1, q1⟩ : ∃ d s1 F1 ca1, Bx X cl e F1 H1 ca1 σ s1 ∧ Is X.K cl F1 ca1 v d ∧ rdK X.K cl e W σ F1 ca1 Q (methKK n ks.length nm m ix d ga s1 (instF c0 s1.ce d))))) fun u s1 ⟨v, H1, I1, r1, d, t1, F1, ca1, b1, i1, q1⟩ => ?_) ht
  cases e1 : instF c0 t1.ce d with
  | none =>
    rw [e1] at q1
    exact False.elim q1
  | some fs =>
    rw [e1] at q1
    have q2 : rdK X.K cl e W σ F1 ca1 Q (if (fs.lookup nm).isNone = true then bindAR (ga t1) fun ds s2 => kwK n ks.length m ix s2 [d] ds else .no) := q1
    by_cases hz : (fs.lookup nm).isNone = true
    · rw [if_pos hz] at q2
      obtain ⟨q, dx, vs, rfl, hH, hi⟩ := inst_ok b1 i1 e1
      obtain rfl : u = Value.ref q := r1
      refine getmeth_ok I1 hH hc hm (isF_none hi (Option.isNone_iff_eq_none.mp hz)) ?_
      apply PySem.W.callWith_KW0 (first := [.ref q]) (h₀ := X.base) I.ok.mod.kin hm.kp hall ?_ hpl
      refine thn (hkw.run pos pins s1 σ H1 _ I1 (use_rdA b1 q2 fun vs ds s2 F2 H2 ca2 b2 i2 x2 p2 q3 => (⟨ds, s2, F2, ca2, b2, i1.mono x2 p2, i2, q3⟩ : ∃ ds s2 F2 ca2, Bx X cl e F2 H2 ca2 σ s2 ∧ Is X.K cl F2 ca2 (.ref q) d ∧ IsL X.K cl F2 ca2 vs ds ∧ rdK X.K cl e W σ F2 ca2 Q (kwK n ks.length m ix s2 [d] ds)))) fun ws s2 ⟨zs, H2, I2, r2, ds, t2, F2, ca2, b2, j1, j2, q3⟩ => ⟨I2.kIn, ?_⟩
      rw [hks]
      unfold kwK at q3
      by_cases hn : ds.length = ks.length ∧ (pick ix ([d] ++ ds)).length = n
      · rw [if_pos hn] at q3
        have ip := isL_pick (IsL.cons j1 j2) ix
        exact kw_run (E := WE W) (us := [.ref q]) (vs := [.ref q]) Fo hr kb (passAt tk σ) I2 (.cons rfl .nil) r2 rfl (by rw [← r2.length, j2.length]; exact hn.1) (sp_of b2 (by show (pick ix (.ref q :: zs)).length = n; rw [ip.length]; exact hn.2) ip q3)
      · rw [if_neg hn] at q3
        exact False.elim q3
    · rw [if_neg hz] at q2
      exact False.elim q2
end
end Dv
set_option maxRecDepth 100000
set_option maxHeartbeats 4000000
/-! [.. for i, x in enumerate(xs)] -/
namespace Dv
open PySem PySem.Spec PyProof.Rows L2
section
variable {X : Cx} {cl : Cl} {e : Ent} {W : WX}
theorem enumD_len : ∀ (k : Nat) (xs : List D), (enumD k xs).length = xs.length
  | _, [] => rfl
  | k, x :: xs => by
    show (enumD (k + 1) xs).length + 1 = xs.length + 1
    rw [enumD_len]
theorem enumD_get : ∀ {xs : List D} {k i : Nat} {d : D}, (enumD k xs)[i]? = some d → ∃ x, xs[i]? = some x ∧ d = .tup [.int ((k + i : Nat) : Int), x]
  | [], _, _, _, h => by cases h
  | x :: xs, k, 0, d, h => by
    cases h
    exact ⟨x, rfl, rfl⟩
  | x :: xs, k, i + 1, d, h => by
    obtain ⟨y, h1, h2⟩ := enumD_get (xs := xs) (k := k + 1) (i := i) (d := d) h
    refine ⟨y, h1, ?_⟩
    rw [h2]
    have e : k + 1 + i = k + (i + 1) := by omega
    rw [e]
theorem wk_enum {F : Hp} {ca : List Addr} {a : Addr} {va : List V} {as : List D} (la : SqL X.K F a va) (ja : IsL X.K cl F ca va as) : WkD X cl (Ite X.K a) F ca (enumD 0 as) := fun e F1 H ca1 σ s b x p _ => by
  have h1 := ex_l (x.trans b.fh) la
  refine ⟨⟨va, h1, by rw [enumD_len, ja.length]; omega⟩, fun i d hd => ?_⟩
  obtain ⟨d1, e1, rfl⟩ := enumD_get hd
  obtain ⟨v1, hv1, i1⟩ := ja.get e1
  refine ⟨⟨va, v1, h1, hv1⟩, fun w H' y => ?_⟩
  obtain ⟨T, x0, rfl, hT, rfl, y1⟩ := y
  have z1 := y1 va h1
  rw [hv1] at z1
  cases z1
  rw [Nat.zero_add]
  exact wk_new b hT (.int _) (i1.mono x p)
theorem ic_enum {ga : DA} : ItC X cl e W (iEnum X.K (rdA X.K cl e W ga)) (iA enumK ga) := ⟨fun F H ca σ s Q k Z b q go => by
  refine use_iAR b q fun vs ds xs s1 F1 H1 ca1 b1 i1 hk q1 => ?_
  unfold enumK at hk
  split at hk
  · rename_i da
    obtain ⟨as, e1, rfl⟩ := Option.map_eq_some_iff.mp hk
    cases i1 with
    | cons ia it =>
      cases it
      obtain ⟨a, va, rfl, la, ja⟩ := frL_ok ia e1
      exact ⟨a, va, rfl, ex_l b1.fh la, go _ _ s1 F1 H1 ca1 b1 (wk_enum la ja) q1⟩
  · cases hk⟩
end
end Dv
set_option maxRecDepth 100000
set_option maxHeartbeats 4000000
/-! texts of data: all signs in range; repr of a small thing -/
namespace Dv
open PySem PySem.Spec PyProof.Rows L2
theorem ok_app (a b : Str) : PyData.strOk (a ++ b) = (PyData.strOk a && PyData.strOk b) := by
  unfold PyData.strOk
  show (a.cps ++ b.cps).all _ = _
  exact Array.all_append
theorem ok_of (s : String) : PyData.strOk (Str.ofString s) = true := by
  rw [Str.ofString_eq_toList]
  unfold PyData.strOk
  rw [List.all_toArray, List.all_eq_true]
  intro n hn
  obtain ⟨c, _, rfl⟩ := List.mem_map.mp hn
  have v : c.toNat < 0xd800 ∨ (0xdfff < c.toNat ∧ c.toNat < 0x110000) := c.valid
  exact decide_eq_true (by omega)
theorem ok_from : ∀ (ts : List Str) (k : Nat) (acc : Str), (∀ t ∈ ts, PyData.strOk t = true) → PyData.strOk acc = true → PyData.strOk (textFrom k acc ts) = true
  | [], _, _, _, h => h
  | t :: r, k, acc, ht, h => by
    show PyData.strOk (textFrom (k + 1) (acc ++ (if k > 0 then ", " else "" : String) ++ t) r) = true
    refine ok_from r _ _ (fun x hx => ht x (List.mem_cons_of_mem _ hx)) ?_
    rw [ok_app, ok_app, h, ht t List.mem_cons_self, ok_of] <;> rfl
theorem ok_list (ts : List Str) (h : ∀ t ∈ ts, PyData.strOk t = true) : PyData.strOk (listText ts) = true := by
  unfold listText
  have e1 := ok_from ts 0 (Str.ofString "[") h (ok_of _)
  have e2 := ok_of "]"
  show PyData.strOk (textFrom 0 (Str.ofString "[") ts ++ Str.ofString "]") = true
  rw [ok_app, e1, e2] <;> rfl
mutual
def plainP : PyData → Bool
  | .none => true
  | .bool _ => true
  | .int _ => true
  | .list xs => plainPs xs
  | _ => false
def plainPs : List PyData → Bool
  | [] => true
  | x :: xs => plainP x && plainPs xs
end
mutual
theorem ok_plain : ∀ p : PyData, plainP p = true → PyData.strOk p.shown = true
  | .none, _ => by
    rw [PyData.shown_none]
    exact ok_of "None"
  | .bool b, _ => by
    rw [PyData.shown_bool]
    cases b
    · exact ok_of "False"
    · exact ok_of "True"
  | .int i, _ => by
    rw [PyData.shown_int]
    exact ok_of (toString i)
  | .list xs, h => by
    have e : PyData.shown (.list xs) = listText (PyData.shownAll xs) := by simp only [PyData.shown]
    rw [e]
    exact ok_list _ (ok_plains xs h)
  | .str _, h => by cases h
  | .tuple _, h => by cases h
  | .dict _, h => by cases h
theorem ok_plains : ∀ xs : List PyData, plainPs xs = true → ∀ t ∈ PyData.shownAll xs, PyData.strOk t = true
  | [], _, t, h => by cases h
  | x :: xs, h, t, ht => by
    have h' : (plainP x && plainPs xs) = true := h
    rw [Bool.and_eq_true] at h'
    rw [PyData.shownAll_cons] at ht
    rcases List.mem_cons.mp ht with z | z
    · subst z
      exact ok_plain x h'.1
    · exact ok_plains xs h'.2 t z
end
theorem repr_of {s s1 : S} {f : DE} {d : D} {p : PyData} (e : f s = .ok d s1) (hp : toP3 s1.ce d = some p) (h : rpOk p) : dBi (b1 reprD) (aCons f aNil) s = .ok (.str p.shown) s1 := by
  rw [r_bi (r_a1 e)]
  show poK s1 (reprK (toP3 s1.ce d)) = _
  rw [hp]
  show poK s1 (if rpOk p then .v (.str p.shown) else .no) = _
  rw [if_pos h] <;> rfl
/-- small data: light, with short leaves -/
theorem rp_small {p : PyData} (h1 : p.showable = true) (h2 : p.hasDict = false) (h3 : p.depth ≤ 50) (h4 : p.leavesShort 13 = true) (h5 : p.weight ≤ 60000) : rpOk p := by
  have h := PyData.shown_le 13 (by decide) p h4
  exact ⟨h1, h2, h3, by omega⟩
theorem sh_str {x : Str} (h : PyData.strOk x = true) : SeqAt.shaped (.str x) = true := by
  show (PyData.strOk x && true) = true
  rw [h] <;> rfl
theorem ne_str (ce : List Cell) {x : Str} (h : PyData.strOk x = true) : pNe ce (.str x) (.str x) = .v (.bl false) := by
  show (if SeqAt.shaped (.str x) = true ∧ SeqAt.shaped (.str x) = true then Po.v (.bl (!(x == x))) else .no) = _
  rw [if_pos ⟨sh_str h, sh_str h⟩, beq_self_eq_true] <;> rfl
theorem eq_str (ce : List Cell) {x : Str} (h : PyData.strOk x = true) : pEq ce (.str x) (.str x) = .v (.bl true) := by
  show (if SeqAt.shaped (.str x) = true ∧ SeqAt.shaped (.str x) = true then Po.v (.bl (x == x)) else .no) = _
  rw [if_pos ⟨sh_str h, sh_str h⟩, beq_self_eq_true] <;> rfl
theorem callK_run {m : Fn} {ga : DA} {s : S} {d1 d2 d : D} (h : ga s = .ok [d1, d2] s) (hm : m [d2, d1] s.ce = .ok d s.ce) : dFz (dCallK 2 2 m [1, 0] ga) s = .ok d s := by
  refine r_fz_ok ?_
  unfold dCallK
  rw [h]
  show frK s (m [d2, d1] s.ce) = _
  rw [hm] <;> rfl
end Dv
set_option maxRecDepth 100000
set_option maxHeartbeats 4000000
/-! x not in o, o an instance of the text's class -/
namespace Dv
open PySem PySem.Spec PyProof.Rows L2
def boolN : R → R
  | .ok (.bl t) s => .ok (.bl (!t)) s
  | .er x s => .er x s
  | _ => .no
def dNotInO (c0 : Nat) (m : Fn) (f g : DE) : DE := fun s => bindR (f s) fun d s1 => bindR (g s1) fun w s2 => boolN (ownK c0 2 m s2 [w, d] (instF c0 s2.ce w))
section
variable {X : Cx} {cl : Cl} {e : Ent} {W : WX} {a b : Expr} {f g : DE} {c0 k : Nat} {m : Fn} {fa : Addr} {fd : FuncData} {ps : List Str}
theorem boolN_w {F : Hp} {ca : List Addr} {σ : L2.St} {Q : VK} {r : R} (q : rdK X.K cl e W σ F ca Q (boolN r)) : rdK X.K cl e W σ F ca (fun v H => ∃ t : Bool, v = .bl t ∧ Q (.bl (!t)) H) r := by
  cases r with
  | ok d s =>
    cases d with
    | bl t =>
      intro v F' H' ca' b x p iv
      cases iv
      exact ⟨t, rfl, q (.bl (!t)) F' H' ca' b x p (.bl _)⟩
    | _ => exact False.elim q
  | er xc s => exact q
  | _ => exact False.elim q
theorem p_notinO (Fo : FnOk X.prog X.w X.K X.mg X.base (L2.CX X.prog X.w) k fa fd ps (spD X.K cl 2 m)) (hr : Room k X.A) (hb : Binds X.K fd ps []) (tk : Takes X W)
    (hs : PySem.W.findIn X.K (.ref (cl c0)) "__contains__" = some (some (.ref fa))) (hf : PySem.W.isFn X.K (.ref fa) = true)
    (ha : PEd X cl e W a f) (hbb : PEd X cl e W b g) : PC X .NotIn a b (rd X.K cl e W (dNotInO c0 m f g)) := by
  refine ⟨fun pins s σ H Q I h => ?_⟩
  obtain ⟨F, ca, s0, b0, q⟩ := h
  refine thn (ha.run pins s σ H _ I (use_rd b0 q fun v d s1 F1 H1 ca1 b1 i1 x1 p1 q1 => (⟨d, s1, F1, ca1, b1, i1, q1⟩ : ∃ d s1 F1 ca1, Bx X cl e F1 H1 ca1 σ s1 ∧ Is X.K cl F1 ca1 v d ∧ rdK X.K cl e W σ F1 ca1 Q (bindR (g s1) fun w s2 => boolN (ownK c0 2 m s2 [w, d] (instF c0 s2.ce w)))))) fun u s1 ⟨v, H1, I1, r1, d, t1, F1, ca1, b1, i1, q1⟩ => ?_
  refine thn (hbb.run pins s1 σ H1 _ I1 (use_rd b1 q1 fun v2 w t2 F2 H2 ca2 b2 i2 x2 p2 q2 => (⟨w, t2, F2, ca2, b2, i1.mono x2 p2, i2, q2⟩ : ∃ w t2 F2 ca2, Bx X cl e F2 H2 ca2 σ t2 ∧ Is X.K cl F2 ca2 v d ∧ Is X.K cl F2 ca2 v2 w ∧ rdK X.K cl e W σ F2 ca2 Q (boolN (ownK c0 2 m t2 [w, d] (instF c0 t2.ce w)))))) fun u2 s2 ⟨v2, H2, I2, r2, w, t2, F2, ca2, b2, j1, j2, q2⟩ => ?_
  obtain ⟨hsp, fs, e2⟩ := own_sp (o := instF c0 t2.ce w) b2 (.cons j2 (.one j1)) (boolN_w q2)
  obtain ⟨p, dx, vs, rfl, hH, hi⟩ := inst_ok b2 j2 e2
  obtain rfl : u2 = Value.ref p := r2
  obtain ⟨mA, J, _⟩ := ins_get I2.hok hH
  obtain ⟨od, J, _⟩ := J.look
  obtain ⟨mm, hF⟩ := I2.fr
  refine PySem.W.notIn_K hF I2.ok.mod.kin J hs hf (thn (run_fnS (E := WE W) (vs := [.ref p, v]) Fo hr hb (passAt tk σ) I2 (.cons rfl (.cons r1 .nil)) hsp) fun u3 s3 z => ?_)
  obtain ⟨v3, H3, I3, r3, t, rfl, q3⟩ := z
  obtain rfl : u3 = Value.bool t := r3
  exact wpAny_truthy_bool ⟨.bl (!t), H3, I3, rfl, q3⟩
theorem c_notinO {pos : Pos} (h1 : behindInMarks .NotIn b = false) (hh : PC X .NotIn a b (rd X.K cl e W f)) : PTd X cl e W (.Compare a [.NotIn] [b] pos) (bTest f) := pt_w (pt_cmp hh h1) fun _ _ _ q => rd_test q
theorem e_notinO {pos : Pos} (h1 : behindInMarks .NotIn b = false) (hh : PC X .NotIn a b (rd X.K cl e W f)) : PEd X cl e W (.Compare a [.NotIn] [b] pos) f := pe_cmp hh h1
end
end Dv
set_option maxRecDepth 100000
set_option maxHeartbeats 4000000
/-! list(range(a, b)) -/
namespace Dv
open PySem PySem.Spec PyProof.Rows L2
def lrK (s : S) : D → D → R
  | .int a, .int b => if 0 ≤ a ∧ a ≤ 100000 ∧ 0 ≤ b ∧ b ≤ 100000 then .nl (rngD a (b - a).toNat) s else .no
  | _, _ => .no
def dListRg2 (f g : DE) : DE := fun s => bindR (f s) fun d s1 => bindR (g s1) fun w s2 => lrK s2 d w
section
variable {X : Cx} {cl : Cl} {e : Ent} {W : WX} {a b : Expr} {f g : DE} {p p2 pos q0 : Pos}
theorem isL_rg {K : PySem.W.Frag} {F : Hp} {ca : List Addr} (i j : Int) : IsL K cl F ca (rgV i j) (rngD i (j - i).toNat) := by
  have e1 : rgV i j = ((List.range (j - i).toNat).map fun (k : Nat) => i + ((k : Nat) : Int)).map V.int := by
    unfold rgV
    rw [List.map_map] <;> rfl
  have e2 : rngD i (j - i).toNat = ((List.range (j - i).toNat).map fun (k : Nat) => i + ((k : Nat) : Int)).map D.int := by
    unfold rngD
    rw [List.map_map] <;> rfl
  rw [e1, e2]
  exact isL_ints _
theorem e_listRg2 (hc : X.calm = true) (hg : Gl X "list") (hz : X.mg "list" = none) (hg2 : Gl X "range") (hz2 : X.mg "range" = none) (ha : PEd X cl e W a f) (hb : PEd X cl e W b g)
    (na : starEach [a, b] X.env = (false, eval a X.env) :: starEach [b] X.env := by rfl) (nb : starEach [b] X.env = (false, eval b X.env) :: starEach [] X.env := by rfl)
    (nc : starEach [(Expr.Call (.Name "range" p2) [a, b] [] q0)] X.env = (false, eval (.Call (.Name "range" p2) [a, b] [] q0) X.env) :: starEach [] X.env := by rfl) (np : (backTo q0 (starEach [b] X.env)).any (·.1) = false := by rfl) :
    PEd X cl e W (.Call (.Name "list" p) [.Call (.Name "range" p2) [a, b] [] q0] [] pos) (dListRg2 f g) :=
  pe_w (pe_listRg hc hg hz (prg_2 hg2 hz2 ha hb na nb np) nc) fun σ H Q q => by
    obtain ⟨F, ca, s, b0, q⟩ := q
    refine use_rd b0 q fun v d s1 F1 H1 ca1 b1 i1 x1 p1 q1 => ?_
    refine use_rd b1 q1 fun w y s2 F2 H2 ca2 b2 i2 x2 p2 q2 => ?_
    cases d with
    | int i =>
      cases y with
      | int j =>
        have q3 : rdK X.K cl e W σ F2 ca2 Q (if 0 ≤ i ∧ i ≤ 100000 ∧ 0 ≤ j ∧ j ≤ 100000 then .nl (rngD i (j - i).toNat) s2 else .no) := q2
        by_cases hz : 0 ≤ i ∧ i ≤ 100000 ∧ 0 ≤ j ∧ j ≤ 100000
        · rw [if_pos hz] at q3
          cases i1
          cases i2
          exact ⟨i, j, rfl, rfl, RgOk.of_le (by omega) (by omega) (by omega) (by omega), fun t ht => q3 (.ref t) F2 _ ca2 (b2.laid ht) (Ex.refl F2) (Pre.refl ca2) ⟨t, _, rfl, upd_same, isL_rg i j, b2.notF ht, b2.notca ht, b2.notH0 ht⟩⟩
        · rw [if_neg hz] at q3
          exact False.elim q3
      | _ => exact False.elim q2
    | _ => exact False.elim q2
end
end Dv
set_option maxRecDepth 100000
set_option maxHeartbeats 4000000
/-! the program of K06, printed by gen.py: bodies as data terms, and the terms of rules -/
namespace K06
open PySem PySem.Spec PyProof.Rows L2 Dv
def top (i : Nat) : Stmt := PySem.Challenge.pw_leaprules_k06_scaled_and_spread_forms.main.body.getD i (.Pass ⟨0, 0, 0, 0⟩)
abbrev s_is_integer : Stmt := top 10
abbrev s_is_number : Stmt := top 11
abbrev s_check_from : Stmt := top 12
abbrev s_check_number : Stmt := top 13
abbrev s_are_divisors : Stmt := top 14
abbrev s_divided_oddly : Stmt := top 15
abbrev s_odd_times : Stmt := top 16
abbrev s_alone : Stmt := top 17
abbrev s_common : Stmt := top 18
abbrev s_divisors_of : Stmt := top 19
abbrev s_form_with : Stmt := top 20
abbrev s_limited_form : Stmt := top 21
abbrev s_form_init : Stmt := inClass (top 22) 0
abbrev s_form_divisors : Stmt := inClass (top 22) 1
abbrev s_form_call : Stmt := inClass (top 22) 2
abbrev s_form_len : Stmt := inClass (top 22) 3
abbrev s_form_contains : Stmt := inClass (top 22) 4
abbrev s_form_eq : Stmt := inClass (top 22) 5
abbrev s_form_xor : Stmt := inClass (top 22) 6
abbrev s_form_and : Stmt := inClass (top 22) 7
abbrev s_form_or : Stmt := inClass (top 22) 8
abbrev s_form_invert : Stmt := inClass (top 22) 9
abbrev s_form_scaled : Stmt := inClass (top 22) 10
abbrev s_form_spread : Stmt := inClass (top 22) 11
abbrev s__law_tape : Stmt := top 24
abbrev s__law_next : Stmt := top 25
abbrev s__law_gcd : Stmt := top 26
abbrev s__law_odd : Stmt := top 27
abbrev s__law_holds : Stmt := top 28
abbrev s__law_one : Stmt := top 29
abbrev s__law_rows : Stmt := top 30
abbrev s__law_right : Stmt := top 31
abbrev s_law : Stmt := top 32
structure Adr where
  f_is_integer : Addr
  d_is_integer : FuncData
  f_is_number : Addr
  d_is_number : FuncData
  f_check_from : Addr
  d_check_from : FuncData
  f_check_number : Addr
  d_check_number : FuncData
  f_are_divisors : Addr
  d_are_divisors : FuncData
  f_divided_oddly : Addr
  d_divided_oddly : FuncData
  f_odd_times : Addr
  d_odd_times : FuncData
  f_alone : Addr
  d_alone : FuncData
  f_common : Addr
  d_common : FuncData
  f_divisors_of : Addr
  d_divisors_of : FuncData
  f_form_with : Addr
  d_form_with : FuncData
  f_limited_form : Addr
  d_limited_form : FuncData
  f_form_init : Addr
  d_form_init : FuncData
  f_form_divisors : Addr
  d_form_divisors : FuncData
  f_form_call : Addr
  d_form_call : FuncData
  f_form_len : Addr
  d_form_len : FuncData
  f_form_contains : Addr
  d_form_contains : FuncData
  f_form_eq : Addr
  d_form_eq : FuncData
  f_form_xor : Addr
  d_form_xor : FuncData
  f_form_and : Addr
  d_form_and : FuncData
  f_form_or : Addr
  d_form_or : FuncData
  f_form_invert : Addr
  d_form_invert : FuncData
  f_form_scaled : Addr
  d_form_scaled : FuncData
  f_form_spread : Addr
  d_form_spread : FuncData
  f__law_tape : Addr
  d__law_tape : FuncData
  f__law_next : Addr
  d__law_next : FuncData
  f__law_gcd : Addr
  d__law_gcd : FuncData
  f__law_odd : Addr
  d__law_odd : FuncData
  f__law_holds : Addr
  d__law_holds : FuncData
  f__law_one : Addr
  d__law_one : FuncData
  f__law_rows : Addr
  d__law_rows : FuncData
  f__law_right : Addr
  d__law_right : FuncData
  f_law : Addr
  d_law : FuncData
  p_form_divisors : Addr
structure Txt (a : Adr) (K : PySem.W.Frag) (mg : Str → Option Value) (cl : Cl) : Prop where
  z_abs : mg "abs" = none
  z_all : mg "all" = none
  z_bool : mg "bool" = none
  z_int : mg "int" = none
  z_isinstance : mg "isinstance" = none
  z_len : mg "len" = none
  z_list : mg "list" = none
  z_max : mg "max" = none
  z_min : mg "min" = none
  z_range : mg "range" = none
  z_repr : mg "repr" = none
  z_set : mg "set" = none
  z_sorted : mg "sorted" = none
  z_zip : mg "zip" = none
  g_MOST_DIVISORS : ∃ u, mg "MOST_DIVISORS" = some u ∧ RelV (.int 200) u
  g_DIVISOR_LIMIT : ∃ u, mg "DIVISOR_LIMIT" = some u ∧ RelV (.int 100000000000000000000) u
  g_gcd : mg "gcd" = some (.builtin "math.gcd")
  g_lcm : mg "lcm" = some (.builtin "math.lcm")
  mg_Form : mg "Form" = some (.ref (cl 0))
  cls : Cls K (cl 0)
  na__held : NoAttr K (cl 0) "_held"
  own_Form : ∀ c, okOwn 0 (.own c) = true → OwnTy K (cl c)
  selfFirst : PySem.W.selfFirst K (cl 0) = true
  notFirst : PySem.W.notFirst K (cl 0) (.ref (cl 0)) = true
  fn_is_integer : L2.Fun K "is_integer" "is_integer" s_is_integer a.f_is_integer a.d_is_integer
  mg_is_integer : mg "is_integer" = some (.ref a.f_is_integer)
  fn_is_number : L2.Fun K "is_number" "is_number" s_is_number a.f_is_number a.d_is_number
  mg_is_number : mg "is_number" = some (.ref a.f_is_number)
  fn_check_from : L2.Fun K "check_from" "check_from" s_check_from a.f_check_from a.d_check_from
  mg_check_from : mg "check_from" = some (.ref a.f_check_from)
  fn_check_number : L2.Fun K "check_number" "check_number" s_check_number a.f_check_number a.d_check_number
  mg_check_number : mg "check_number" = some (.ref a.f_check_number)
  fn_are_divisors : L2.Fun K "are_divisors" "are_divisors" s_are_divisors a.f_are_divisors a.d_are_divisors
  mg_are_divisors : mg "are_divisors" = some (.ref a.f_are_divisors)
  fn_divided_oddly : L2.Fun K "divided_oddly" "divided_oddly" s_divided_oddly a.f_divided_oddly a.d_divided_oddly
  mg_divided_oddly : mg "divided_oddly" = some (.ref a.f_divided_oddly)
  fn_odd_times : L2.Fun K "odd_times" "odd_times" s_odd_times a.f_odd_times a.d_odd_times
  mg_odd_times : mg "odd_times" = some (.ref a.f_odd_times)
  fn_alone : L2.Fun K "alone" "alone" s_alone a.f_alone a.d_alone
  mg_alone : mg "alone" = some (.ref a.f_alone)
  fn_common : L2.Fun K "common" "common" s_common a.f_common a.d_common
  mg_common : mg "common" = some (.ref a.f_common)
  fn_divisors_of : L2.Fun K "divisors_of" "divisors_of" s_divisors_of a.f_divisors_of a.d_divisors_of
  mg_divisors_of : mg "divisors_of" = some (.ref a.f_divisors_of)
  fn_form_with : L2.Fun K "form_with" "form_with" s_form_with a.f_form_with a.d_form_with
  mg_form_with : mg "form_with" = some (.ref a.f_form_with)
  fn_limited_form : L2.Fun K "limited_form" "limited_form" s_limited_form a.f_limited_form a.d_limited_form
  mg_limited_form : mg "limited_form" = some (.ref a.f_limited_form)
  fn_form_init : L2.Fun K "__init__" "Form.__init__" s_form_init a.f_form_init a.d_form_init
  mk_Form : Mk K (cl 0) a.f_form_init
  fn_form_divisors : L2.Fun K "divisors" "Form.divisors" s_form_divisors a.f_form_divisors a.d_form_divisors
  prop_form_divisors : PropOf K (cl 0) "divisors" a.p_form_divisors a.f_form_divisors
  fn_form_call : L2.Fun K "__call__" "Form.__call__" s_form_call a.f_form_call a.d_form_call
  callo : StX.CallO K (cl 0) a.f_form_call
  fn_form_len : L2.Fun K "__len__" "Form.__len__" s_form_len a.f_form_len a.d_form_len
  fi_form_len : PySem.W.findIn K (.ref (cl 0)) "__len__" = some (some (.ref a.f_form_len))
  is_form_len : PySem.W.isFn K (.ref a.f_form_len) = true
  fn_form_contains : L2.Fun K "__contains__" "Form.__contains__" s_form_contains a.f_form_contains a.d_form_contains
  fi_form_contains : PySem.W.findIn K (.ref (cl 0)) "__contains__" = some (some (.ref a.f_form_contains))
  is_form_contains : PySem.W.isFn K (.ref a.f_form_contains) = true
  fn_form_eq : L2.Fun K "__eq__" "Form.__eq__" s_form_eq a.f_form_eq a.d_form_eq
  fi_form_eq : PySem.W.findIn K (.ref (cl 0)) "__eq__" = some (some (.ref a.f_form_eq))
  is_form_eq : PySem.W.isFn K (.ref a.f_form_eq) = true
  fn_form_xor : L2.Fun K "__xor__" "Form.__xor__" s_form_xor a.f_form_xor a.d_form_xor
  fi_form_xor : PySem.W.findIn K (.ref (cl 0)) "__xor__" = some (some (.ref a.f_form_xor))
  is_form_xor : PySem.W.isFn K (.ref a.f_form_xor) = true
  fn_form_and : L2.Fun K "__and__" "Form.__and__" s_form_and a.f_form_and a.d_form_and
  fi_form_and : PySem.W.findIn K (.ref (cl 0)) "__and__" = some (some (.ref a.f_form_and))
  is_form_and : PySem.W.isFn K (.ref a.f_form_and) = true
  fn_form_or : L2.Fun K "__or__" "Form.__or__" s_form_or a.f_form_or a.d_form_or
  fi_form_or : PySem.W.findIn K (.ref (cl 0)) "__or__" = some (some (.ref a.f_form_or))
  is_form_or : PySem.W.isFn K (.ref a.f_form_or) = true
  fn_form_invert : L2.Fun K "__invert__" "Form.__invert__" s_form_invert a.f_form_invert a.d_form_invert
  fi_form_invert : PySem.W.findIn K (.ref (cl 0)) "__invert__" = some (some (.ref a.f_form_invert))
  is_form_invert : PySem.W.isFn K (.ref a.f_form_invert) = true
  fn_form_scaled : L2.Fun K "scaled" "Form.scaled" s_form_scaled a.f_form_scaled a.d_form_scaled
  me_form_scaled : Meth K (cl 0) "scaled" a.f_form_scaled
  fn_form_spread : L2.Fun K "spread" "Form.spread" s_form_spread a.f_form_spread a.d_form_spread
  me_form_spread : Meth K (cl 0) "spread" a.f_form_spread
  fn__law_tape : L2.Fun K "_law_tape" "_law_tape" s__law_tape a.f__law_tape a.d__law_tape
  mg__law_tape : mg "_law_tape" = some (.ref a.f__law_tape)
  fn__law_next : L2.Fun K "_law_next" "_law_next" s__law_next a.f__law_next a.d__law_next
  mg__law_next : mg "_law_next" = some (.ref a.f__law_next)
  fn__law_gcd : L2.Fun K "_law_gcd" "_law_gcd" s__law_gcd a.f__law_gcd a.d__law_gcd
  mg__law_gcd : mg "_law_gcd" = some (.ref a.f__law_gcd)
  fn__law_odd : L2.Fun K "_law_odd" "_law_odd" s__law_odd a.f__law_odd a.d__law_odd
  mg__law_odd : mg "_law_odd" = some (.ref a.f__law_odd)
  fn__law_holds : L2.Fun K "_law_holds" "_law_holds" s__law_holds a.f__law_holds a.d__law_holds
  mg__law_holds : mg "_law_holds" = some (.ref a.f__law_holds)
  fn__law_one : L2.Fun K "_law_one" "_law_one" s__law_one a.f__law_one a.d__law_one
  mg__law_one : mg "_law_one" = some (.ref a.f__law_one)
  fn__law_rows : L2.Fun K "_law_rows" "_law_rows" s__law_rows a.f__law_rows a.d__law_rows
  mg__law_rows : mg "_law_rows" = some (.ref a.f__law_rows)
  fn__law_right : L2.Fun K "_law_right" "_law_right" s__law_right a.f__law_right a.d__law_right
  mg__law_right : mg "_law_right" = some (.ref a.f__law_right)
  fn_law : L2.Fun K "law" "law" s_law a.f_law a.d_law
  mg_law : mg "law" = some (.ref a.f_law)
section
variable {P : Program} {w : World} {a : Adr} {K : PySem.W.Frag} {mg : Str → Option Value} {base : Heap} {cl : Cl}
theorem Txt.bd_is_integer (T : Txt a K mg cl) : Binds K a.d_is_integer ["thing"] [] := T.fn_is_integer.binds fun _ _ _ _ _ _ us hl => match us, hl with | [_], _ => rfl
theorem Txt.bd_is_number (T : Txt a K mg cl) : Binds K a.d_is_number ["thing"] [] := T.fn_is_number.binds fun _ _ _ _ _ _ us hl => match us, hl with | [_], _ => rfl
theorem Txt.bd_check_from (T : Txt a K mg cl) : Binds K a.d_check_from ["number", "least"] [] := T.fn_check_from.binds fun _ _ _ _ _ _ us hl => match us, hl with | [_, _], _ => rfl
theorem Txt.bd_check_number (T : Txt a K mg cl) : Binds K a.d_check_number ["number"] [] := T.fn_check_number.binds fun _ _ _ _ _ _ us hl => match us, hl with | [_], _ => rfl
theorem Txt.bd_are_divisors (T : Txt a K mg cl) : Binds K a.d_are_divisors ["thing"] [] := T.fn_are_divisors.binds fun _ _ _ _ _ _ us hl => match us, hl with | [_], _ => rfl
theorem Txt.bd_divided_oddly (T : Txt a K mg cl) : Binds K a.d_divided_oddly ["number", "divisors"] [] := T.fn_divided_oddly.binds fun _ _ _ _ _ _ us hl => match us, hl with | [_, _], _ => rfl
theorem Txt.bd_odd_times (T : Txt a K mg cl) : Binds K a.d_odd_times ["numbers"] [] := T.fn_odd_times.binds fun _ _ _ _ _ _ us hl => match us, hl with | [_], _ => rfl
theorem Txt.bd_alone (T : Txt a K mg cl) : Binds K a.d_alone ["ones", "others"] [] := T.fn_alone.binds fun _ _ _ _ _ _ us hl => match us, hl with | [_, _], _ => rfl
theorem Txt.bd_common (T : Txt a K mg cl) : Binds K a.d_common ["ones", "others"] [] := T.fn_common.binds fun _ _ _ _ _ _ us hl => match us, hl with | [_, _], _ => rfl
theorem Txt.bd_divisors_of (T : Txt a K mg cl) : Binds K a.d_divisors_of ["other"] [] := T.fn_divisors_of.binds fun _ _ _ _ _ _ us hl => match us, hl with | [_], _ => rfl
theorem Txt.bd_form_with (T : Txt a K mg cl) : Binds K a.d_form_with ["divisors"] [] := T.fn_form_with.binds fun _ _ _ _ _ _ us hl => match us, hl with | [_], _ => rfl
theorem Txt.bd_limited_form (T : Txt a K mg cl) : Binds K a.d_limited_form ["divisors"] [] := T.fn_limited_form.binds fun _ _ _ _ _ _ us hl => match us, hl with | [_], _ => rfl
theorem Txt.bd_form_init (T : Txt a K mg cl) : Binds K a.d_form_init ["self", "divisors"] [] := T.fn_form_init.binds fun _ _ _ _ _ _ us hl => match us, hl with | [_, _], _ => rfl
theorem Txt.bd_form_divisors (T : Txt a K mg cl) : Binds K a.d_form_divisors ["self"] [] := T.fn_form_divisors.binds fun _ _ _ _ _ _ us hl => match us, hl with | [_], _ => rfl
theorem Txt.bd_form_call (T : Txt a K mg cl) : Binds K a.d_form_call ["self", "number"] [] := T.fn_form_call.binds fun _ _ _ _ _ _ us hl => match us, hl with | [_, _], _ => rfl
theorem Txt.bd_form_len (T : Txt a K mg cl) : Binds K a.d_form_len ["self"] [] := T.fn_form_len.binds fun _ _ _ _ _ _ us hl => match us, hl with | [_], _ => rfl
theorem Txt.bd_form_contains (T : Txt a K mg cl) : Binds K a.d_form_contains ["self", "thing"] [] := T.fn_form_contains.binds fun _ _ _ _ _ _ us hl => match us, hl with | [_, _], _ => rfl
theorem Txt.bd_form_eq (T : Txt a K mg cl) : Binds K a.d_form_eq ["self", "other"] [] := T.fn_form_eq.binds fun _ _ _ _ _ _ us hl => match us, hl with | [_, _], _ => rfl
theorem Txt.bd_form_xor (T : Txt a K mg cl) : Binds K a.d_form_xor ["self", "other"] [] := T.fn_form_xor.binds fun _ _ _ _ _ _ us hl => match us, hl with | [_, _], _ => rfl
theorem Txt.bd_form_and (T : Txt a K mg cl) : Binds K a.d_form_and ["self", "other"] [] := T.fn_form_and.binds fun _ _ _ _ _ _ us hl => match us, hl with | [_, _], _ => rfl
theorem Txt.bd_form_or (T : Txt a K mg cl) : Binds K a.d_form_or ["self", "other"] [] := T.fn_form_or.binds fun _ _ _ _ _ _ us hl => match us, hl with | [_, _], _ => rfl
theorem Txt.bd_form_invert (T : Txt a K mg cl) : Binds K a.d_form_invert ["self"] [] := T.fn_form_invert.binds fun _ _ _ _ _ _ us hl => match us, hl with | [_], _ => rfl
theorem Txt.bd_form_scaled (T : Txt a K mg cl) : Binds K a.d_form_scaled ["self", "number"] [] := T.fn_form_scaled.binds fun _ _ _ _ _ _ us hl => match us, hl with | [_, _], _ => rfl
theorem Txt.bd_form_spread (T : Txt a K mg cl) : Binds K a.d_form_spread ["self", "number"] [] := T.fn_form_spread.binds fun _ _ _ _ _ _ us hl => match us, hl with | [_, _], _ => rfl
theorem Txt.bd__law_tape (T : Txt a K mg cl) : Binds K a.d__law_tape ["script", "k"] [] := T.fn__law_tape.binds fun _ _ _ _ _ _ us hl => match us, hl with | [_, _], _ => rfl
theorem Txt.bd__law_next (T : Txt a K mg cl) : Binds K a.d__law_next ["tape", "many"] [] := T.fn__law_next.binds fun _ _ _ _ _ _ us hl => match us, hl with | [_, _], _ => rfl
theorem Txt.bd__law_gcd (T : Txt a K mg cl) : Binds K a.d__law_gcd ["one", "other"] [] := T.fn__law_gcd.binds fun _ _ _ _ _ _ us hl => match us, hl with | [_, _], _ => rfl
theorem Txt.bd__law_odd (T : Txt a K mg cl) : Binds K a.d__law_odd ["rows"] [] := T.fn__law_odd.binds fun _ _ _ _ _ _ us hl => match us, hl with | [_], _ => rfl
theorem Txt.bd__law_holds (T : Txt a K mg cl) : Binds K a.d__law_holds ["rows", "one_number"] [] := T.fn__law_holds.binds fun _ _ _ _ _ _ us hl => match us, hl with | [_, _], _ => rfl
theorem Txt.bd__law_one (T : Txt a K mg cl) : Binds K a.d__law_one ["tape", "way"] [] := T.fn__law_one.binds fun _ _ _ _ _ _ us hl => match us, hl with | [_, _], _ => rfl
theorem Txt.bd__law_rows (T : Txt a K mg cl) : Binds K a.d__law_rows ["tape", "most"] [] := T.fn__law_rows.binds fun _ _ _ _ _ _ us hl => match us, hl with | [_, _], _ => rfl
theorem Txt.bd__law_right (T : Txt a K mg cl) : Binds K a.d__law_right ["tape", "rows"] [] := T.fn__law_right.binds fun _ _ _ _ _ _ us hl => match us, hl with | [_, _], _ => rfl
theorem Txt.bd_law (T : Txt a K mg cl) : Binds K a.d_law ["script"] [] := T.fn_law.binds fun _ _ _ _ _ _ us hl => match us, hl with | [_], _ => rfl
theorem Txt.kw_form_scaled_number (T : Txt a K mg cl) : KwB a.d_form_scaled ["self", "number"] 1 ["number"] [0, 1] := KwB.of T.fn_form_scaled fun _ _ _ _ _ _ us ws h1 h2 => match us, h1, ws, h2 with | [_], _, [_], _ => rfl
theorem Txt.kw_form_spread_number (T : Txt a K mg cl) : KwB a.d_form_spread ["self", "number"] 1 ["number"] [0, 1] := KwB.of T.fn_form_spread fun _ _ _ _ _ _ us ws h1 h2 => match us, h1, ws, h2 with | [_], _, [_], _ => rfl
theorem sc_is_integer : FnScope ["thing"] ["thing"] (defScope s_is_integer) := ⟨rfl, rfl, rfl, by decide +kernel, rfl, by decide +kernel, by decide +kernel⟩
noncomputable def D_is_integer  : DS := (sRet (dAnd (dUn (isiD okBt ansInt) (dVar 0)) (dNot (dUn (isiD okBt ansBl) (dVar 0)))))
theorem ok_is_integer  {m : Fn} (T : Txt a K mg cl)  (hd : Does 1 (D_is_integer ) m) : FnOk P w K mg base (L2.CX P w) 1 a.f_is_integer a.d_is_integer ["thing"] (spD K cl 1 m) := by
  refine def_ok (b := D_is_integer ) T.fn_is_integer sc_is_integer rfl (by decide) hd fun cdv A outer s H E e hr tk => ?_
  have nd := sc_is_integer.nd
  exact (s_one (s_ret (d_and (d_isi kit_int (fun c h => by cases h) (pe_bltn (v := .ty "int") (by rfl) T.z_int (by decide +kernel) rfl) (.ty _) (d_var (pv 0)) (fun t => pe_callB call_isi (by rfl) T.z_isinstance (by decide +kernel))) (d_one (d_not (d_isi kit_bl (fun c h => by cases h) (pe_bltn (v := .ty "bool") (by rfl) T.z_bool (by decide +kernel) rfl) (.ty _) (d_var (pv 0)) (fun t => pe_callB call_isi (by rfl) T.z_isinstance (by decide +kernel))))))))
theorem sc_is_number : FnScope ["thing"] ["thing"] (defScope s_is_number) := ⟨rfl, rfl, rfl, by decide +kernel, rfl, by decide +kernel, by decide +kernel⟩
noncomputable def D_is_number (m_is_integer : Fn) : DS := (sRet (dAnd (dFz (dCall 1 m_is_integer (aCons (dVar 0) aNil))) (dOp pGe (dVar 0) (dC (.int 1)))))
theorem ok_is_number {m_is_integer : Fn} {m : Fn} (T : Txt a K mg cl) (G_is_integer : FnOk P w K mg base (L2.CX P w) 1 a.f_is_integer a.d_is_integer ["thing"] (spD K cl 1 m_is_integer)) (hd : Does 1 (D_is_number m_is_integer) m) : FnOk P w K mg base (L2.CX P w) 2 a.f_is_number a.d_is_number ["thing"] (spD K cl 1 m) := by
  refine def_ok (b := D_is_number m_is_integer) T.fn_is_number sc_is_number rfl (by decide) hd fun cdv A outer s H E e hr tk => ?_
  have nd := sc_is_number.nd
  exact (s_one (s_ret (d_and (d_fz (d_call G_is_integer (hr.mono (by decide)) (by rfl) T.mg_is_integer T.fn_is_integer.kp (T.bd_is_integer) tk (d_acons (d_var (pv 0)) d_anil))) (d_one (e_ge (d_var (pv 0)) d_int)))))
theorem sc_check_from : FnScope ["number", "least"] ["number", "least"] (defScope s_check_from) := ⟨rfl, rfl, rfl, by decide +kernel, rfl, by decide +kernel, by decide +kernel⟩
noncomputable def D_check_from (m_is_integer : Fn) : DS := (sIf (bOr (bNot (bTest (dFz (dCall 1 m_is_integer (aCons (dVar 0) aNil))))) (bTest (dOp pLt (dVar 0) (dVar 1)))) sNever sNext)
theorem ok_check_from {m_is_integer : Fn} {m : Fn} (T : Txt a K mg cl) (G_is_integer : FnOk P w K mg base (L2.CX P w) 1 a.f_is_integer a.d_is_integer ["thing"] (spD K cl 1 m_is_integer)) (hd : Does 2 (D_check_from m_is_integer) m) : FnOk P w K mg base (L2.CX P w) 2 a.f_check_from a.d_check_from ["number", "least"] (spD K cl 2 m) := by
  refine def_ok (b := D_check_from m_is_integer) T.fn_check_from sc_check_from rfl (by decide) hd fun cdv A outer s H E e hr tk => ?_
  have nd := sc_check_from.nd
  exact (s_one (s_if (t_pw (t_or (t_not (t_val (d_fz (d_call G_is_integer (hr.mono (by decide)) (by rfl) T.mg_is_integer T.fn_is_integer.kp (T.bd_is_integer) tk (d_acons (d_var (pv 0)) d_anil))))) (t_or1 (c_lt (d_var (pv 0)) (d_var (pv 1)))))) (s_one s_never) s_nil))
theorem sc_check_number : FnScope ["number"] ["number"] (defScope s_check_number) := ⟨rfl, rfl, rfl, by decide +kernel, rfl, by decide +kernel, by decide +kernel⟩
noncomputable def D_check_number (m_check_from : Fn) : DS := (sDrop (dCall 2 m_check_from (aCons (dVar 0) (aCons (dC (.int 1)) aNil))))
theorem ok_check_number {m_check_from : Fn} {m : Fn} (T : Txt a K mg cl) (G_check_from : FnOk P w K mg base (L2.CX P w) 2 a.f_check_from a.d_check_from ["number", "least"] (spD K cl 2 m_check_from)) (hd : Does 1 (D_check_number m_check_from) m) : FnOk P w K mg base (L2.CX P w) 3 a.f_check_number a.d_check_number ["number"] (spD K cl 1 m) := by
  refine def_ok (b := D_check_number m_check_from) T.fn_check_number sc_check_number rfl (by decide) hd fun cdv A outer s H E e hr tk => ?_
  have nd := sc_check_number.nd
  exact (s_one (s_drop (ps_expr (d_call G_check_from (hr.mono (by decide)) (by rfl) T.mg_check_from T.fn_check_from.kp (T.bd_check_from) tk (d_acons (d_var (pv 0)) (d_acons d_int d_anil))))))
theorem sc_are_divisors : FnScope ["thing", "divisor", "low", "high"] ["thing"] (defScope s_are_divisors) := ⟨rfl, rfl, rfl, by decide +kernel, rfl, by decide +kernel, by decide +kernel⟩
noncomputable def D_are_divisors (m_is_number : Fn) : DS := (sSeq (sIf (bOr (bNot (bTest (dUn (isiD okBt ansLst) (dVar 0)))) (bTest (dOp pGt (dBi (b1 lenD) (aCons (dVar 0) aNil)) (dC (.int 200))))) (sRet (dC (.bl false))) sNext) (sSeq (sIf (bNot (bTest (dBi (b1 allD) (aCons (dFz (dCompV 0 (tgN 1) [1] bYes (dAnd (dFz (dCall 1 m_is_number (aCons (dVar 1) aNil))) (dOp pLt (dVar 1) (dC (.int 100000000000000000000)))))) aNil)))) (sRet (dC (.bl false))) sNext) (sRet (dBi (b1 allD) (aCons (dFz (dComp (iA zipU (aCons (dVar 0) (aCons (dFz (dSlice (dVar 0) (ptSome (dC (.int 1))) ptNone)) aNil))) (tgT [(tgN 2), (tgN 3)]) [2, 3] bYes (dOp pLt (dVar 2) (dVar 3)))) aNil)))))
theorem ok_are_divisors {m_is_number : Fn} {m : Fn} (T : Txt a K mg cl) (G_is_number : FnOk P w K mg base (L2.CX P w) 2 a.f_is_number a.d_is_number ["thing"] (spD K cl 1 m_is_number)) (hd : Does 4 (D_are_divisors m_is_number) m) : FnOk P w K mg base (L2.CX P w) 3 a.f_are_divisors a.d_are_divisors ["thing"] (spD K cl 1 m) := by
  refine def_ok (b := D_are_divisors m_is_number) T.fn_are_divisors sc_are_divisors rfl (by decide) hd fun cdv A outer s H E e hr tk => ?_
  have nd := sc_are_divisors.nd
  exact (s_cons (s_if (t_pw (t_or (t_not (t_val (d_isi kit_lst (fun c h => by cases h) (pe_bltn (v := .ty "list") (by rfl) T.z_list (by decide +kernel) rfl) (.ty _) (d_var (pv 0)) (fun t => pe_callB call_isi (by rfl) T.z_isinstance (by decide +kernel))))) (t_or1 (c_gt (e_len (by rfl) T.z_len (d_acons (d_var (pv 0)) d_anil)) (d_c (e_gc (by rfl) T.g_MOST_DIVISORS) fun _ _ => .int _))))) (s_one (s_ret d_bl)) s_nil) (s_cons (s_if (t_not (t_val (e_all (by rfl) (by rfl) T.z_all (d_acons (d_fz (d_lcV (tc_name (by decide)) (pe_lc (own := [("divisor", 1)]) (by rfl) nd (pi_list (pv 0)) (blkOk_by (N := ["thing", "divisor", "low", "high"]) (sc := defScope s_are_divisors) (by decide +kernel)) (fun _ _ _ _ _ => (pg_name (i := 1) nd rfl (Or.inl rfl))) (fun _ _ _ _ _ => pts_yes) (fun _ _ _ _ _ => pe_ex fun e => (d_and (d_fz (d_call G_is_number (hr.mono (by decide)) (by rfl) T.mg_is_number T.fn_is_number.kp (T.bd_is_number) takesW0 (d_acons (d_var (pv 1)) d_anil))) (d_one (e_lt (d_var (pv 1)) (d_c (e_gc (by rfl) T.g_DIVISOR_LIMIT) fun _ _ => .int _)))))))) d_anil)))) (s_one (s_ret d_bl)) s_nil) (s_one (s_ret (e_all (by rfl) (by rfl) T.z_all (d_acons (d_fz (d_lc ic_zipU (tc_tup (tcs_cons (tc_name (by decide)) (tcs_cons (tc_name (by decide)) tcs_nil)) rfl) (pe_lc (own := [("low", 2), ("high", 3)]) (by rfl) nd (pi_zip (by rfl) T.z_zip (d_acons (d_var (pv 0)) (d_acons (d_fz (d_slice (d_var (pv 0)) (p_some d_int) p_none)) d_anil))) (blkOk_by (N := ["thing", "divisor", "low", "high"]) (sc := defScope s_are_divisors) (by decide +kernel)) (fun _ _ _ _ _ => (pg_tup (by rfl) (pgs_cons (pg_name (i := 2) nd rfl (Or.inl rfl)) (pgs_cons (pg_name (i := 3) nd rfl (Or.inl rfl)) pgs_nil)))) (fun _ _ _ _ _ => pts_yes) (fun _ _ _ _ _ => pe_ex fun e => (e_lt (d_var (pv 2)) (d_var (pv 3))))))) d_anil))))))
theorem sc_divided_oddly : FnScope ["number", "divisors", "divisor"] ["number", "divisors"] (defScope s_divided_oddly) := ⟨rfl, rfl, rfl, by decide +kernel, rfl, by decide +kernel, by decide +kernel⟩
noncomputable def D_divided_oddly  : DS := (sRet (dOp pEq (dOp pMod (dBi (b1 lenD) (aCons (dFz (dCompV 1 (tgN 2) [2] (bTest (dOp pEq (dOp pMod (dVar 0) (dVar 2)) (dC (.int 0)))) (dVar 2))) aNil)) (dC (.int 2))) (dC (.int 1))))
theorem ok_divided_oddly  {m : Fn} (T : Txt a K mg cl)  (hd : Does 3 (D_divided_oddly ) m) : FnOk P w K mg base (L2.CX P w) 1 a.f_divided_oddly a.d_divided_oddly ["number", "divisors"] (spD K cl 2 m) := by
  refine def_ok (b := D_divided_oddly ) T.fn_divided_oddly sc_divided_oddly rfl (by decide) hd fun cdv A outer s H E e hr tk => ?_
  have nd := sc_divided_oddly.nd
  exact (s_one (s_ret (e_eq (hu := hr.units) (e_mod (e_len (by rfl) T.z_len (d_acons (d_fz (d_lcV (tc_name (by decide)) (pe_lc (own := [("divisor", 2)]) (by rfl) nd (pi_list (pv 1)) (blkOk_by (N := ["number", "divisors", "divisor"]) (sc := defScope s_divided_oddly) (by decide +kernel)) (fun _ _ _ _ _ => (pg_name (i := 2) nd rfl (Or.inl rfl))) (fun _ _ _ _ _ => (pts_one (pt_ex fun e => (c_eq (hu := hr.units) (e_mod (d_var (pv 0)) (d_var (pv 2))) d_int)))) (fun _ _ _ _ _ => pe_ex fun e => (d_var (pv 2)))))) d_anil)) d_int) d_int)))
theorem sc_odd_times : FnScope ["numbers", "odd", "number"] ["numbers"] (defScope s_odd_times) := ⟨rfl, rfl, rfl, by decide +kernel, rfl, by decide +kernel, by decide +kernel⟩
noncomputable def D_odd_times  : DS := (sSeq (sSet 1 dNewD) (sSeq (sFor (iL (dVar 0)) (tgN 2) (sPutD (dVar 1) (dVar 2) (dNot (dGetD (dVar 1) (dVar 2) (dC (.bl false)))))) (sRet (dBi (b1 sortedD) (aCons (dFz (dKeysT 1 2)) aNil)))))
theorem ok_odd_times  {m : Fn} (T : Txt a K mg cl)  (hd : Does 3 (D_odd_times ) m) : FnOk P w K mg base (L2.CX P w) 1 a.f_odd_times a.d_odd_times ["numbers"] (spD K cl 1 m) := by
  refine def_ok (b := D_odd_times ) T.fn_odd_times sc_odd_times rfl (by decide) hd fun cdv A outer s H E e hr tk => ?_
  have nd := sc_odd_times.nd
  exact (s_cons (s_set (ps_set (i := 1) nd rfl (Or.inr rfl) d_newd)) (s_cons (s_for it_list td_name (ps_for (passes_of rfl) (by rfl) (pi_list (d_var (pv 0))) (pg_name (i := 2) nd rfl (Or.inl rfl)) (s_one (s_putd (ps_dput (hu_of hr) (d_var (pv 1)) (d_var (pv 2)) (d_not (d_getd (pe_dget2 (hu_of hr) (d_var (pv 1)) (d_var (pv 2)) d_bl ⟨by rfl, by rfl, by rfl, by rfl⟩))) (by rfl)))))) (s_one (s_ret (e_sorted (by rfl) T.z_sorted (d_acons (d_fz (d_keysT (i := 1) (j := 2) (vs := [2]) (by decide) (by decide) (pe_lock (pe_lc (own := [("number", 2)]) (g := gName 2) (by rfl) nd (pi_keys (pv 1)) (blkOk_by (N := ["numbers", "odd", "number"]) (sc := defScope s_odd_times) (by decide +kernel)) (fun _ _ _ _ _ => pg_name (i := 2) nd rfl (Or.inl rfl)) (fun _ _ _ _ _ => pts_one (pt_val (pe_dget (hu_of hr) (pv 1) (pv 2) (fun _ _ => by rfl)))) (fun _ _ _ _ _ => pv 2))))) d_anil))))))
theorem sc_alone : FnScope ["ones", "others"] ["ones", "others"] (defScope s_alone) := ⟨rfl, rfl, rfl, by decide +kernel, rfl, by decide +kernel, by decide +kernel⟩
noncomputable def D_alone (m_odd_times : Fn) : DS := (sRet (dCall 1 m_odd_times (aCons (dFz (dOp pAdd (dVar 0) (dVar 1))) aNil)))
theorem ok_alone {m_odd_times : Fn} {m : Fn} (T : Txt a K mg cl) (G_odd_times : FnOk P w K mg base (L2.CX P w) 1 a.f_odd_times a.d_odd_times ["numbers"] (spD K cl 1 m_odd_times)) (hd : Does 2 (D_alone m_odd_times) m) : FnOk P w K mg base (L2.CX P w) 2 a.f_alone a.d_alone ["ones", "others"] (spD K cl 2 m) := by
  refine def_ok (b := D_alone m_odd_times) T.fn_alone sc_alone rfl (by decide) hd fun cdv A outer s H E e hr tk => ?_
  have nd := sc_alone.nd
  exact (s_one (s_ret (d_call G_odd_times (hr.mono (by decide)) (by rfl) T.mg_odd_times T.fn_odd_times.kp (T.bd_odd_times) tk (d_acons (d_fz (e_add (d_var (pv 0)) (d_var (pv 1)))) d_anil))))
theorem sc_common : FnScope ["ones", "others", "one", "other"] ["ones", "others"] (defScope s_common) := ⟨rfl, rfl, rfl, by decide +kernel, rfl, by decide +kernel, by decide +kernel⟩
noncomputable def D_common (m_odd_times : Fn) : DS := (sRet (dCall 1 m_odd_times (aCons (dFz (dComp2 (iL (dVar 0)) (tgN 2) [2, 3] bYes (iL (dVar 1)) (tgN 3) [3] bYes (dBi (b2 lcmD) (aCons (dVar 2) (aCons (dVar 3) aNil))))) aNil)))
theorem ok_common {m_odd_times : Fn} {m : Fn} (T : Txt a K mg cl) (G_odd_times : FnOk P w K mg base (L2.CX P w) 1 a.f_odd_times a.d_odd_times ["numbers"] (spD K cl 1 m_odd_times)) (hd : Does 4 (D_common m_odd_times) m) : FnOk P w K mg base (L2.CX P w) 2 a.f_common a.d_common ["ones", "others"] (spD K cl 2 m) := by
  refine def_ok (b := D_common m_odd_times) T.fn_common sc_common rfl (by decide) hd fun cdv A outer s H E e hr tk => ?_
  have nd := sc_common.nd
  exact (s_one (s_ret (d_call G_odd_times (hr.mono (by decide)) (by rfl) T.mg_odd_times T.fn_odd_times.kp (T.bd_odd_times) tk (d_acons (d_fz (d_lc2 ic_list (tc_name (by decide)) (fun e => ic_list) (tc_name (by decide)) (pe_lc2 (own := [("one", 2), ("other", 3)]) (vs1 := [3]) (by rfl) nd (pi_list (d_var (pv 0))) (blkOk_by (N := ["ones", "others", "one", "other"]) (sc := defScope s_common) (by decide +kernel)) (by decide) (fun _ _ _ _ _ => (pg_name (i := 2) nd rfl (Or.inl rfl))) (fun _ _ _ _ _ => pts_yes) (fun _ _ _ _ _ => pi_ex fun e => (pi_list (d_var (pv 1)))) (fun _ _ _ _ _ => (pg_name (i := 3) nd rfl (Or.inl rfl))) (fun _ _ _ _ _ => pts_yes) (fun _ _ _ _ _ => pe_ex fun e => (e_lcm (by rfl) T.g_lcm (d_acons (d_var (pv 2)) (d_acons (d_var (pv 3)) d_anil))))))) d_anil))))
theorem sc_form_divisors : FnScope ["self"] ["self"] (defScope s_form_divisors) := ⟨rfl, rfl, rfl, by decide +kernel, rfl, by decide +kernel, by decide +kernel⟩
noncomputable def D_form_divisors  : DS := (sRet (dBi (b1 listD) (aCons (dUn (pFld 0 "_held") (dVar 0)) aNil)))
theorem ok_form_divisors  {m : Fn} (T : Txt a K mg cl)  (hd : Does 1 (D_form_divisors ) m) : FnOk P w K mg base (L2.CX P w) 1 a.f_form_divisors a.d_form_divisors ["self"] (spD K cl 1 m) := by
  refine def_ok (b := D_form_divisors ) T.fn_form_divisors sc_form_divisors rfl (by decide) hd fun cdv A outer s H E e hr tk => ?_
  have nd := sc_form_divisors.nd
  exact (s_one (s_ret (e_list (by rfl) T.z_list (d_acons (d_fld (d_var (pv 0)) T.cls T.na__held) d_anil))))
theorem sc_divisors_of : FnScope ["other"] ["other"] (defScope s_divisors_of) := ⟨rfl, rfl, rfl, by decide +kernel, rfl, by decide +kernel, by decide +kernel⟩
noncomputable def D_divisors_of (m_form_divisors : Fn) : DS := (sSeq (sIf (bNot (bTest (dUn (isiD (okOwn 0) fun _ => true) (dVar 0)))) sNever sNext) (sRet (dProp 0 1 m_form_divisors (dVar 0))))
theorem ok_divisors_of {m_form_divisors : Fn} {m : Fn} (T : Txt a K mg cl) (G_form_divisors : FnOk P w K mg base (L2.CX P w) 1 a.f_form_divisors a.d_form_divisors ["self"] (spD K cl 1 m_form_divisors)) (hd : Does 1 (D_divisors_of m_form_divisors) m) : FnOk P w K mg base (L2.CX P w) 3 a.f_divisors_of a.d_divisors_of ["other"] (spD K cl 1 m) := by
  refine def_ok (b := D_divisors_of m_form_divisors) T.fn_divisors_of sc_divisors_of rfl (by decide) hd fun cdv A outer s H E e hr tk => ?_
  have nd := sc_divisors_of.nd
  exact (s_cons (s_if (t_not (t_val (d_isi (kit_own 0) T.own_Form (e_gc (v := .ref (cl 0)) (by rfl) ⟨_, T.mg_Form, rfl⟩) (.own _) (d_var (pv 0)) (fun t => pe_callB call_isi (by rfl) T.z_isinstance (by decide +kernel))))) (s_one s_never) s_nil) (s_one (s_ret (d_prop G_form_divisors (hr.mono (by decide)) (T.bd_form_divisors) T.cls T.prop_form_divisors (d_var (pv 0))))))
theorem sc_form_init : FnScope ["self", "divisors"] ["self", "divisors"] (defScope s_form_init) := ⟨rfl, rfl, rfl, by decide +kernel, rfl, by decide +kernel, by decide +kernel⟩
noncomputable def D_form_init (m_are_divisors : Fn) : DS := (sSeq (sIf (bNot (bTest (dFz (dCall 1 m_are_divisors (aCons (dVar 1) aNil))))) sNever sNext) (sSetF 0 "_held" (dVar 0) (dFz (dBi (b1 listD) (aCons (dVar 1) aNil)))))
theorem ok_form_init {m_are_divisors : Fn} {m : Fn} (T : Txt a K mg cl) (G_are_divisors : FnOk P w K mg base (L2.CX P w) 3 a.f_are_divisors a.d_are_divisors ["thing"] (spD K cl 1 m_are_divisors)) (hd : Does 2 (D_form_init m_are_divisors) m) : FnOk P w K mg base (L2.CX P w) 4 a.f_form_init a.d_form_init ["self", "divisors"] (spD K cl 2 m) := by
  refine def_ok (b := D_form_init m_are_divisors) T.fn_form_init sc_form_init rfl (by decide) hd fun cdv A outer s H E e hr tk => ?_
  have nd := sc_form_init.nd
  exact (s_cons (s_if (t_not (t_val (d_fz (d_call G_are_divisors (hr.mono (by decide)) (by rfl) T.mg_are_divisors T.fn_are_divisors.kp (T.bd_are_divisors) tk (d_acons (d_var (pv 1)) d_anil))))) (s_one s_never) s_nil) (s_one (s_fld T.cls T.na__held (ps_fld (d_var (pv 0)) (d_fz (e_list (by rfl) T.z_list (d_acons (d_var (pv 1)) d_anil))) (by rfl)))))
theorem sc_form_with : FnScope ["divisors", "made"] ["divisors"] (defScope s_form_with) := ⟨rfl, rfl, rfl, by decide +kernel, rfl, by decide +kernel, by decide +kernel⟩
noncomputable def D_form_with (k_form_init : MkFn) : DS := (sSeq (sSet 1 (dCe (dMake 0 2 k_form_init (aCons (dFz (dLst aNil)) aNil)))) (sSeq (sSetF 0 "_held" (dVar 1) (dFz (dBi (b1 listD) (aCons (dVar 0) aNil)))) (sRet (dShare 1))))
theorem ok_form_with {m_form_init : Fn} {k_form_init : MkFn} {m : Fn} (T : Txt a K mg cl) (G_form_init : FnOk P w K mg base (L2.CX P w) 4 a.f_form_init a.d_form_init ["self", "divisors"] (spD K cl 2 m_form_init)) (K_form_init : MkOk 0 m_form_init k_form_init) (hd : Does 2 (D_form_with k_form_init) m) : FnOk P w K mg base (L2.CX P w) 6 a.f_form_with a.d_form_with ["divisors"] (spD K cl 1 m) := by
  refine def_ok (b := D_form_with k_form_init) T.fn_form_with sc_form_with rfl (by decide) hd fun cdv A outer s H E e hr tk => ?_
  have nd := sc_form_with.nd
  exact (s_cons (s_set (ps_set (i := 1) nd rfl (Or.inl rfl) (d_ce (d_make T.mk_Form G_form_init K_form_init (hr.mono (by decide)) (by rfl) T.mg_Form (T.bd_form_init) tk (d_acons (d_fz (e_lst d_anil)) d_anil))))) (s_cons (s_fld T.cls T.na__held (ps_fld (d_var (pv 1)) (d_fz (e_list (by rfl) T.z_list (d_acons (d_var (pv 0)) d_anil))) (by rfl))) (s_one (s_ret (d_share (pv 1))))))
theorem sc_limited_form : FnScope ["divisors"] ["divisors"] (defScope s_limited_form) := ⟨rfl, rfl, rfl, by decide +kernel, rfl, by decide +kernel, by decide +kernel⟩
noncomputable def D_limited_form (m_form_with : Fn) : DS := (sSeq (sIf (bTest (dOp pGt (dBi (b1 lenD) (aCons (dVar 0) aNil)) (dC (.int 200)))) sNever sNext) (sRet (dCall 1 m_form_with (aCons (dVar 0) aNil))))
theorem ok_limited_form {m_form_with : Fn} {m : Fn} (T : Txt a K mg cl) (G_form_with : FnOk P w K mg base (L2.CX P w) 6 a.f_form_with a.d_form_with ["divisors"] (spD K cl 1 m_form_with)) (hd : Does 1 (D_limited_form m_form_with) m) : FnOk P w K mg base (L2.CX P w) 7 a.f_limited_form a.d_limited_form ["divisors"] (spD K cl 1 m) := by
  refine def_ok (b := D_limited_form m_form_with) T.fn_limited_form sc_limited_form rfl (by decide) hd fun cdv A outer s H E e hr tk => ?_
  have nd := sc_limited_form.nd
  exact (s_cons (s_if (c_gt (e_len (by rfl) T.z_len (d_acons (d_var (pv 0)) d_anil)) (d_c (e_gc (by rfl) T.g_MOST_DIVISORS) fun _ _ => .int _)) (s_one s_never) s_nil) (s_one (s_ret (d_call G_form_with (hr.mono (by decide)) (by rfl) T.mg_form_with T.fn_form_with.kp (T.bd_form_with) tk (d_acons (d_var (pv 0)) d_anil)))))
theorem sc_form_call : FnScope ["self", "number"] ["self", "number"] (defScope s_form_call) := ⟨rfl, rfl, rfl, by decide +kernel, rfl, by decide +kernel, by decide +kernel⟩
noncomputable def D_form_call (m_check_number : Fn) (m_divided_oddly : Fn) : DS := (sSeq (sDrop (dCall 1 m_check_number (aCons (dVar 1) aNil))) (sRet (dCall 2 m_divided_oddly (aCons (dVar 1) (aCons (dUn (pFld 0 "_held") (dVar 0)) aNil)))))
theorem ok_form_call {m_check_number : Fn} {m_divided_oddly : Fn} {m : Fn} (T : Txt a K mg cl) (G_check_number : FnOk P w K mg base (L2.CX P w) 3 a.f_check_number a.d_check_number ["number"] (spD K cl 1 m_check_number)) (G_divided_oddly : FnOk P w K mg base (L2.CX P w) 1 a.f_divided_oddly a.d_divided_oddly ["number", "divisors"] (spD K cl 2 m_divided_oddly)) (hd : Does 2 (D_form_call m_check_number m_divided_oddly) m) : FnOk P w K mg base (L2.CX P w) 4 a.f_form_call a.d_form_call ["self", "number"] (spD K cl 2 m) := by
  refine def_ok (b := D_form_call m_check_number m_divided_oddly) T.fn_form_call sc_form_call rfl (by decide) hd fun cdv A outer s H E e hr tk => ?_
  have nd := sc_form_call.nd
  exact (s_cons (s_drop (ps_expr (d_call G_check_number (hr.mono (by decide)) (by rfl) T.mg_check_number T.fn_check_number.kp (T.bd_check_number) tk (d_acons (d_var (pv 1)) d_anil)))) (s_one (s_ret (d_call G_divided_oddly (hr.mono (by decide)) (by rfl) T.mg_divided_oddly T.fn_divided_oddly.kp (T.bd_divided_oddly) tk (d_acons (d_var (pv 1)) (d_acons (d_fld (d_var (pv 0)) T.cls T.na__held) d_anil))))))
theorem sc_form_len : FnScope ["self"] ["self"] (defScope s_form_len) := ⟨rfl, rfl, rfl, by decide +kernel, rfl, by decide +kernel, by decide +kernel⟩
noncomputable def D_form_len  : DS := (sRet (dBi (b1 lenD) (aCons (dUn (pFld 0 "_held") (dVar 0)) aNil)))
theorem ok_form_len  {m : Fn} (T : Txt a K mg cl)  (hd : Does 1 (D_form_len ) m) : FnOk P w K mg base (L2.CX P w) 1 a.f_form_len a.d_form_len ["self"] (spD K cl 1 m) := by
  refine def_ok (b := D_form_len ) T.fn_form_len sc_form_len rfl (by decide) hd fun cdv A outer s H E e hr tk => ?_
  have nd := sc_form_len.nd
  exact (s_one (s_ret (e_len (by rfl) T.z_len (d_acons (d_fld (d_var (pv 0)) T.cls T.na__held) d_anil))))
theorem sc_form_contains : FnScope ["self", "thing"] ["self", "thing"] (defScope s_form_contains) := ⟨rfl, rfl, rfl, by decide +kernel, rfl, by decide +kernel, by decide +kernel⟩
noncomputable def D_form_contains (m_is_number : Fn) : DS := (sRet (dAnd (dFz (dCall 1 m_is_number (aCons (dVar 1) aNil))) (dOp (pIn false) (dVar 1) (dUn (pFld 0 "_held") (dVar 0)))))
theorem ok_form_contains {m_is_number : Fn} {m : Fn} (T : Txt a K mg cl) (G_is_number : FnOk P w K mg base (L2.CX P w) 2 a.f_is_number a.d_is_number ["thing"] (spD K cl 1 m_is_number)) (hd : Does 2 (D_form_contains m_is_number) m) : FnOk P w K mg base (L2.CX P w) 3 a.f_form_contains a.d_form_contains ["self", "thing"] (spD K cl 2 m) := by
  refine def_ok (b := D_form_contains m_is_number) T.fn_form_contains sc_form_contains rfl (by decide) hd fun cdv A outer s H E e hr tk => ?_
  have nd := sc_form_contains.nd
  exact (s_one (s_ret (d_and (d_fz (d_call G_is_number (hr.mono (by decide)) (by rfl) T.mg_is_number T.fn_is_number.kp (T.bd_is_number) tk (d_acons (d_var (pv 1)) d_anil))) (d_one (e_in (d_var (pv 1)) (d_fld (d_var (pv 0)) T.cls T.na__held))))))
theorem sc_form_eq : FnScope ["self", "other"] ["self", "other"] (defScope s_form_eq) := ⟨rfl, rfl, rfl, by decide +kernel, rfl, by decide +kernel, by decide +kernel⟩
noncomputable def D_form_eq  : DS := (sRet (dAnd (dUn (isiD (okOwn 0) fun _ => true) (dVar 1)) (dOp pEq (dUn (pFld 0 "_held") (dVar 0)) (dUn (pFld 0 "_held") (dVar 1)))))
theorem ok_form_eq  {m : Fn} (T : Txt a K mg cl)  (hd : Does 2 (D_form_eq ) m) : FnOk P w K mg base (L2.CX P w) 1 a.f_form_eq a.d_form_eq ["self", "other"] (spD K cl 2 m) := by
  refine def_ok (b := D_form_eq ) T.fn_form_eq sc_form_eq rfl (by decide) hd fun cdv A outer s H E e hr tk => ?_
  have nd := sc_form_eq.nd
  exact (s_one (s_ret (d_and (d_isi (kit_own 0) T.own_Form (e_gc (v := .ref (cl 0)) (by rfl) ⟨_, T.mg_Form, rfl⟩) (.own _) (d_var (pv 1)) (fun t => pe_callB call_isi (by rfl) T.z_isinstance (by decide +kernel))) (d_one (e_eq (hu := hr.units) (d_fld (d_var (pv 0)) T.cls T.na__held) (d_fld (d_var (pv 1)) T.cls T.na__held))))))
theorem sc_form_xor : FnScope ["self", "other"] ["self", "other"] (defScope s_form_xor) := ⟨rfl, rfl, rfl, by decide +kernel, rfl, by decide +kernel, by decide +kernel⟩
noncomputable def D_form_xor (m_divisors_of : Fn) (m_alone : Fn) (m_limited_form : Fn) : DS := (sRet (dCall 1 m_limited_form (aCons (dFz (dCall 2 m_alone (aCons (dUn (pFld 0 "_held") (dVar 0)) (aCons (dFz (dCall 1 m_divisors_of (aCons (dVar 1) aNil))) aNil)))) aNil)))
theorem ok_form_xor {m_divisors_of : Fn} {m_alone : Fn} {m_limited_form : Fn} {m : Fn} (T : Txt a K mg cl) (G_divisors_of : FnOk P w K mg base (L2.CX P w) 3 a.f_divisors_of a.d_divisors_of ["other"] (spD K cl 1 m_divisors_of)) (G_alone : FnOk P w K mg base (L2.CX P w) 2 a.f_alone a.d_alone ["ones", "others"] (spD K cl 2 m_alone)) (G_limited_form : FnOk P w K mg base (L2.CX P w) 7 a.f_limited_form a.d_limited_form ["divisors"] (spD K cl 1 m_limited_form)) (hd : Does 2 (D_form_xor m_divisors_of m_alone m_limited_form) m) : FnOk P w K mg base (L2.CX P w) 8 a.f_form_xor a.d_form_xor ["self", "other"] (spD K cl 2 m) := by
  refine def_ok (b := D_form_xor m_divisors_of m_alone m_limited_form) T.fn_form_xor sc_form_xor rfl (by decide) hd fun cdv A outer s H E e hr tk => ?_
  have nd := sc_form_xor.nd
  exact (s_one (s_ret (d_call G_limited_form (hr.mono (by decide)) (by rfl) T.mg_limited_form T.fn_limited_form.kp (T.bd_limited_form) tk (d_acons (d_fz (d_call G_alone (hr.mono (by decide)) (by rfl) T.mg_alone T.fn_alone.kp (T.bd_alone) tk (d_acons (d_fld (d_var (pv 0)) T.cls T.na__held) (d_acons (d_fz (d_call G_divisors_of (hr.mono (by decide)) (by rfl) T.mg_divisors_of T.fn_divisors_of.kp (T.bd_divisors_of) tk (d_acons (d_var (pv 1)) d_anil))) d_anil)))) d_anil))))
theorem sc_form_and : FnScope ["self", "other"] ["self", "other"] (defScope s_form_and) := ⟨rfl, rfl, rfl, by decide +kernel, rfl, by decide +kernel, by decide +kernel⟩
noncomputable def D_form_and (m_divisors_of : Fn) (m_common : Fn) (m_limited_form : Fn) : DS := (sRet (dCall 1 m_limited_form (aCons (dFz (dCall 2 m_common (aCons (dUn (pFld 0 "_held") (dVar 0)) (aCons (dFz (dCall 1 m_divisors_of (aCons (dVar 1) aNil))) aNil)))) aNil)))
theorem ok_form_and {m_divisors_of : Fn} {m_common : Fn} {m_limited_form : Fn} {m : Fn} (T : Txt a K mg cl) (G_divisors_of : FnOk P w K mg base (L2.CX P w) 3 a.f_divisors_of a.d_divisors_of ["other"] (spD K cl 1 m_divisors_of)) (G_common : FnOk P w K mg base (L2.CX P w) 2 a.f_common a.d_common ["ones", "others"] (spD K cl 2 m_common)) (G_limited_form : FnOk P w K mg base (L2.CX P w) 7 a.f_limited_form a.d_limited_form ["divisors"] (spD K cl 1 m_limited_form)) (hd : Does 2 (D_form_and m_divisors_of m_common m_limited_form) m) : FnOk P w K mg base (L2.CX P w) 8 a.f_form_and a.d_form_and ["self", "other"] (spD K cl 2 m) := by
  refine def_ok (b := D_form_and m_divisors_of m_common m_limited_form) T.fn_form_and sc_form_and rfl (by decide) hd fun cdv A outer s H E e hr tk => ?_
  have nd := sc_form_and.nd
  exact (s_one (s_ret (d_call G_limited_form (hr.mono (by decide)) (by rfl) T.mg_limited_form T.fn_limited_form.kp (T.bd_limited_form) tk (d_acons (d_fz (d_call G_common (hr.mono (by decide)) (by rfl) T.mg_common T.fn_common.kp (T.bd_common) tk (d_acons (d_fld (d_var (pv 0)) T.cls T.na__held) (d_acons (d_fz (d_call G_divisors_of (hr.mono (by decide)) (by rfl) T.mg_divisors_of T.fn_divisors_of.kp (T.bd_divisors_of) tk (d_acons (d_var (pv 1)) d_anil))) d_anil)))) d_anil))))
theorem sc_form_or : FnScope ["self", "other", "others"] ["self", "other"] (defScope s_form_or) := ⟨rfl, rfl, rfl, by decide +kernel, rfl, by decide +kernel, by decide +kernel⟩
noncomputable def D_form_or (m_divisors_of : Fn) (m_common : Fn) (m_alone : Fn) (m_limited_form : Fn) : DS := (sSeq (sSet 2 (dFz (dCall 1 m_divisors_of (aCons (dVar 1) aNil)))) (sRet (dCall 1 m_limited_form (aCons (dFz (dCall 2 m_alone (aCons (dFz (dCall 2 m_alone (aCons (dUn (pFld 0 "_held") (dVar 0)) (aCons (dVar 2) aNil)))) (aCons (dFz (dCall 2 m_common (aCons (dUn (pFld 0 "_held") (dVar 0)) (aCons (dVar 2) aNil)))) aNil)))) aNil))))
theorem ok_form_or {m_divisors_of : Fn} {m_common : Fn} {m_alone : Fn} {m_limited_form : Fn} {m : Fn} (T : Txt a K mg cl) (G_divisors_of : FnOk P w K mg base (L2.CX P w) 3 a.f_divisors_of a.d_divisors_of ["other"] (spD K cl 1 m_divisors_of)) (G_common : FnOk P w K mg base (L2.CX P w) 2 a.f_common a.d_common ["ones", "others"] (spD K cl 2 m_common)) (G_alone : FnOk P w K mg base (L2.CX P w) 2 a.f_alone a.d_alone ["ones", "others"] (spD K cl 2 m_alone)) (G_limited_form : FnOk P w K mg base (L2.CX P w) 7 a.f_limited_form a.d_limited_form ["divisors"] (spD K cl 1 m_limited_form)) (hd : Does 3 (D_form_or m_divisors_of m_common m_alone m_limited_form) m) : FnOk P w K mg base (L2.CX P w) 8 a.f_form_or a.d_form_or ["self", "other"] (spD K cl 2 m) := by
  refine def_ok (b := D_form_or m_divisors_of m_common m_alone m_limited_form) T.fn_form_or sc_form_or rfl (by decide) hd fun cdv A outer s H E e hr tk => ?_
  have nd := sc_form_or.nd
  exact (s_cons (s_set (ps_set (i := 2) nd rfl (Or.inl rfl) (d_fz (d_call G_divisors_of (hr.mono (by decide)) (by rfl) T.mg_divisors_of T.fn_divisors_of.kp (T.bd_divisors_of) tk (d_acons (d_var (pv 1)) d_anil))))) (s_one (s_ret (d_call G_limited_form (hr.mono (by decide)) (by rfl) T.mg_limited_form T.fn_limited_form.kp (T.bd_limited_form) tk (d_acons (d_fz (d_call G_alone (hr.mono (by decide)) (by rfl) T.mg_alone T.fn_alone.kp (T.bd_alone) tk (d_acons (d_fz (d_call G_alone (hr.mono (by decide)) (by rfl) T.mg_alone T.fn_alone.kp (T.bd_alone) tk (d_acons (d_fld (d_var (pv 0)) T.cls T.na__held) (d_acons (d_var (pv 2)) d_anil)))) (d_acons (d_fz (d_call G_common (hr.mono (by decide)) (by rfl) T.mg_common T.fn_common.kp (T.bd_common) tk (d_acons (d_fld (d_var (pv 0)) T.cls T.na__held) (d_acons (d_var (pv 2)) d_anil)))) d_anil)))) d_anil)))))
theorem sc_form_invert : FnScope ["self"] ["self"] (defScope s_form_invert) := ⟨rfl, rfl, rfl, by decide +kernel, rfl, by decide +kernel, by decide +kernel⟩
noncomputable def D_form_invert (m_alone : Fn) (m_limited_form : Fn) : DS := (sRet (dCall 1 m_limited_form (aCons (dFz (dCall 2 m_alone (aCons (dUn (pFld 0 "_held") (dVar 0)) (aCons (dFz (dLst (aCons (dC (.int 1)) aNil))) aNil)))) aNil)))
theorem ok_form_invert {m_alone : Fn} {m_limited_form : Fn} {m : Fn} (T : Txt a K mg cl) (G_alone : FnOk P w K mg base (L2.CX P w) 2 a.f_alone a.d_alone ["ones", "others"] (spD K cl 2 m_alone)) (G_limited_form : FnOk P w K mg base (L2.CX P w) 7 a.f_limited_form a.d_limited_form ["divisors"] (spD K cl 1 m_limited_form)) (hd : Does 1 (D_form_invert m_alone m_limited_form) m) : FnOk P w K mg base (L2.CX P w) 8 a.f_form_invert a.d_form_invert ["self"] (spD K cl 1 m) := by
  refine def_ok (b := D_form_invert m_alone m_limited_form) T.fn_form_invert sc_form_invert rfl (by decide) hd fun cdv A outer s H E e hr tk => ?_
  have nd := sc_form_invert.nd
  exact (s_one (s_ret (d_call G_limited_form (hr.mono (by decide)) (by rfl) T.mg_limited_form T.fn_limited_form.kp (T.bd_limited_form) tk (d_acons (d_fz (d_call G_alone (hr.mono (by decide)) (by rfl) T.mg_alone T.fn_alone.kp (T.bd_alone) tk (d_acons (d_fld (d_var (pv 0)) T.cls T.na__held) (d_acons (d_fz (e_lst (d_acons d_int d_anil))) d_anil)))) d_anil))))
theorem sc_form_scaled : FnScope ["self", "number", "divisor"] ["self", "number"] (defScope s_form_scaled) := ⟨rfl, rfl, rfl, by decide +kernel, rfl, by decide +kernel, by decide +kernel⟩
noncomputable def D_form_scaled (m_check_number : Fn) (m_odd_times : Fn) (m_form_with : Fn) : DS := (sSeq (sDrop (dCall 1 m_check_number (aCons (dVar 1) aNil))) (sRet (dCall 1 m_form_with (aCons (dFz (dCall 1 m_odd_times (aCons (dFz (dComp (iL (dUn (pFld 0 "_held") (dVar 0))) (tgN 2) [2] bYes (dOp pDiv (dVar 2) (dBi (b2 gcdD) (aCons (dVar 2) (aCons (dVar 1) aNil)))))) aNil))) aNil))))
theorem ok_form_scaled {m_check_number : Fn} {m_odd_times : Fn} {m_form_with : Fn} {m : Fn} (T : Txt a K mg cl) (G_check_number : FnOk P w K mg base (L2.CX P w) 3 a.f_check_number a.d_check_number ["number"] (spD K cl 1 m_check_number)) (G_odd_times : FnOk P w K mg base (L2.CX P w) 1 a.f_odd_times a.d_odd_times ["numbers"] (spD K cl 1 m_odd_times)) (G_form_with : FnOk P w K mg base (L2.CX P w) 6 a.f_form_with a.d_form_with ["divisors"] (spD K cl 1 m_form_with)) (hd : Does 3 (D_form_scaled m_check_number m_odd_times m_form_with) m) : FnOk P w K mg base (L2.CX P w) 7 a.f_form_scaled a.d_form_scaled ["self", "number"] (spD K cl 2 m) := by
  refine def_ok (b := D_form_scaled m_check_number m_odd_times m_form_with) T.fn_form_scaled sc_form_scaled rfl (by decide) hd fun cdv A outer s H E e hr tk => ?_
  have nd := sc_form_scaled.nd
  exact (s_cons (s_drop (ps_expr (d_call G_check_number (hr.mono (by decide)) (by rfl) T.mg_check_number T.fn_check_number.kp (T.bd_check_number) tk (d_acons (d_var (pv 1)) d_anil)))) (s_one (s_ret (d_call G_form_with (hr.mono (by decide)) (by rfl) T.mg_form_with T.fn_form_with.kp (T.bd_form_with) tk (d_acons (d_fz (d_call G_odd_times (hr.mono (by decide)) (by rfl) T.mg_odd_times T.fn_odd_times.kp (T.bd_odd_times) tk (d_acons (d_fz (d_lc ic_list (tc_name (by decide)) (pe_lc (own := [("divisor", 2)]) (by rfl) nd (pi_list (d_fld (d_var (pv 0)) T.cls T.na__held)) (blkOk_by (N := ["self", "number", "divisor"]) (sc := defScope s_form_scaled) (by decide +kernel)) (fun _ _ _ _ _ => (pg_name (i := 2) nd rfl (Or.inl rfl))) (fun _ _ _ _ _ => pts_yes) (fun _ _ _ _ _ => pe_ex fun e => (e_div (d_var (pv 2)) (e_gcd (by rfl) T.g_gcd (d_acons (d_var (pv 2)) (d_acons (d_var (pv 1)) d_anil)))))))) d_anil))) d_anil)))))
theorem sc_form_spread : FnScope ["self", "number", "divisor"] ["self", "number"] (defScope s_form_spread) := ⟨rfl, rfl, rfl, by decide +kernel, rfl, by decide +kernel, by decide +kernel⟩
noncomputable def D_form_spread (m_check_number : Fn) (m_form_with : Fn) : DS := (sSeq (sDrop (dCall 1 m_check_number (aCons (dVar 1) aNil))) (sRet (dCall 1 m_form_with (aCons (dFz (dComp (iL (dUn (pFld 0 "_held") (dVar 0))) (tgN 2) [2] bYes (dOp pMul (dVar 2) (dVar 1)))) aNil))))
theorem ok_form_spread {m_check_number : Fn} {m_form_with : Fn} {m : Fn} (T : Txt a K mg cl) (G_check_number : FnOk P w K mg base (L2.CX P w) 3 a.f_check_number a.d_check_number ["number"] (spD K cl 1 m_check_number)) (G_form_with : FnOk P w K mg base (L2.CX P w) 6 a.f_form_with a.d_form_with ["divisors"] (spD K cl 1 m_form_with)) (hd : Does 3 (D_form_spread m_check_number m_form_with) m) : FnOk P w K mg base (L2.CX P w) 7 a.f_form_spread a.d_form_spread ["self", "number"] (spD K cl 2 m) := by
  refine def_ok (b := D_form_spread m_check_number m_form_with) T.fn_form_spread sc_form_spread rfl (by decide) hd fun cdv A outer s H E e hr tk => ?_
  have nd := sc_form_spread.nd
  exact (s_cons (s_drop (ps_expr (d_call G_check_number (hr.mono (by decide)) (by rfl) T.mg_check_number T.fn_check_number.kp (T.bd_check_number) tk (d_acons (d_var (pv 1)) d_anil)))) (s_one (s_ret (d_call G_form_with (hr.mono (by decide)) (by rfl) T.mg_form_with T.fn_form_with.kp (T.bd_form_with) tk (d_acons (d_fz (d_lc ic_list (tc_name (by decide)) (pe_lc (own := [("divisor", 2)]) (by rfl) nd (pi_list (d_fld (d_var (pv 0)) T.cls T.na__held)) (blkOk_by (N := ["self", "number", "divisor"]) (sc := defScope s_form_spread) (by decide +kernel)) (fun _ _ _ _ _ => (pg_name (i := 2) nd rfl (Or.inl rfl))) (fun _ _ _ _ _ => pts_yes) (fun _ _ _ _ _ => pe_ex fun e => (e_mul (d_var (pv 2)) (d_var (pv 1))))))) d_anil)))))
theorem sc__law_tape : FnScope ["script", "k", "cell_here"] ["script", "k"] (defScope s__law_tape) := ⟨rfl, rfl, rfl, by decide +kernel, rfl, by decide +kernel, by decide +kernel⟩
noncomputable def D__law_tape  : DS := (sSeq (sSet 2 (dIf (bTest (dOp pLt (dVar 1) (dBi (b1 lenD) (aCons (dVar 0) aNil)))) (dBi (b1 absD) (aCons (dOp pIx (dVar 0) (dVar 1)) aNil)) (dC (.int 0)))) (sRet (dLst (aCons (dBi (b2 maxD) (aCons (dC (.int 0)) (aCons (dOp pSub (dVar 2) (dOp pPow (dC (.int 10)) (dC (.int 18)))) aNil))) (aCons (dOp pAdd (dOp pMul (dOp pMod (dVar 2) (dOp pAdd (dOp pPow (dC (.int 10)) (dC (.int 36))) (dC (.int 67)))) (dC (.int 71))) (dVar 1)) (aCons (dC (.int 0)) aNil))))))
theorem ok__law_tape  {m : Fn} (T : Txt a K mg cl)  (hd : Does 3 (D__law_tape ) m) : FnOk P w K mg base (L2.CX P w) 1 a.f__law_tape a.d__law_tape ["script", "k"] (spD K cl 2 m) := by
  refine def_ok (b := D__law_tape ) T.fn__law_tape sc__law_tape rfl (by decide) hd fun cdv A outer s H E e hr tk => ?_
  have nd := sc__law_tape.nd
  exact (s_cons (s_set (ps_set (i := 2) nd rfl (Or.inl rfl) (d_if (c_lt (d_var (pv 1)) (e_len (by rfl) T.z_len (d_acons (d_var (pv 0)) d_anil))) (e_abs (by rfl) T.z_abs (d_acons (d_ix (d_var (pv 0)) (d_var (pv 1))) d_anil)) d_int))) (s_one (s_ret (e_lst (d_acons (e_max (by rfl) (by rfl) T.z_max (d_acons d_int (d_acons (e_sub (d_var (pv 2)) (e_pow d_int d_int)) d_anil))) (d_acons (e_add (e_mul (e_mod (d_var (pv 2)) (e_add (e_pow d_int d_int) d_int)) d_int) (d_var (pv 1))) (d_acons d_int d_anil)))))))
theorem sc__law_next : FnScope ["tape", "many", "digit", "mixed"] ["tape", "many"] (defScope s__law_next) := ⟨rfl, rfl, rfl, by decide +kernel, rfl, by decide +kernel, by decide +kernel⟩
noncomputable def D__law_next  : DS := (sSeq (sIf (bTest (dOp pGt (dOp pIx (dVar 0) (dC (.int 0))) (dC (.int 0)))) (sSeq (sSet 2 (dOp pMod (dOp pIx (dVar 0) (dC (.int 0))) (dVar 1))) (sSeq (sSetI (dVar 0) (dC (.int 0)) (dOp pDiv (dOp pIx (dVar 0) (dC (.int 0))) (dVar 1))) (sRet (dVar 2)))) sNext) (sSeq (sSetI (dVar 0) (dC (.int 2)) (dOp pAdd (dOp pIx (dVar 0) (dC (.int 2))) (dC (.int 1)))) (sSeq (sSet 3 (dOp pMod (dOp pPow (dOp pAdd (dOp pIx (dVar 0) (dC (.int 1))) (dOp pMul (dC (.int 1000000033)) (dOp pIx (dVar 0) (dC (.int 2))))) (dC (.int 3))) (dOp pAdd (dOp pPow (dC (.int 10)) (dC (.int 64))) (dC (.int 57))))) (sSeq (sSet 3 (dOp pMod (dOp pPow (dOp pAdd (dVar 3) (dOp pMul (dC (.int 998244397)) (dOp pIx (dVar 0) (dC (.int 2))))) (dC (.int 3))) (dOp pAdd (dOp pPow (dC (.int 10)) (dC (.int 64))) (dC (.int 9))))) (sRet (dOp pMod (dOp pDiv (dVar 3) (dC (.int 29983))) (dVar 1)))))))
theorem ok__law_next  {m : Fn} (T : Txt a K mg cl)  (hd : Does 4 (D__law_next ) m) : FnOk P w K mg base (L2.CX P w) 1 a.f__law_next a.d__law_next ["tape", "many"] (spD K cl 2 m) := by
  refine def_ok (b := D__law_next ) T.fn__law_next sc__law_next rfl (by decide) hd fun cdv A outer s H E e hr tk => ?_
  have nd := sc__law_next.nd
  exact (s_cons (s_if (c_gt (d_ix (d_var (pv 0)) d_int) d_int) (s_cons (s_set (ps_set (i := 2) nd rfl (Or.inl rfl) (e_mod (d_ix (d_var (pv 0)) d_int) (d_var (pv 1))))) (s_cons (s_seti (ps_asg (e_div (d_ix (d_var (pv 0)) d_int) (d_var (pv 1))) (pg_sub (d_var (pv 0)) d_int set_list))) (s_one (s_ret (d_var (pv 2)))))) s_nil) (s_cons (s_seti (ps_asg (e_add (d_ix (d_var (pv 0)) d_int) d_int) (pg_sub (d_var (pv 0)) d_int set_list))) (s_cons (s_set (ps_set (i := 3) nd rfl (Or.inl rfl) (e_mod (e_pow (e_add (d_ix (d_var (pv 0)) d_int) (e_mul d_int (d_ix (d_var (pv 0)) d_int))) d_int) (e_add (e_pow d_int d_int) d_int)))) (s_cons (s_set (ps_set (i := 3) nd rfl (Or.inl rfl) (e_mod (e_pow (e_add (d_var (pv 3)) (e_mul d_int (d_ix (d_var (pv 0)) d_int))) d_int) (e_add (e_pow d_int d_int) d_int)))) (s_one (s_ret (e_mod (e_div (d_var (pv 3)) d_int) (d_var (pv 1)))))))))
theorem sc__law_gcd : FnScope ["one", "other"] ["one", "other"] (defScope s__law_gcd) := ⟨rfl, rfl, rfl, by decide +kernel, rfl, by decide +kernel, by decide +kernel⟩
noncomputable def D__law_gcd  : DS := (sSeq (sWhile (bTest (dOp pGt (dVar 1) (dC (.int 0)))) (sPar2 0 1 (aCons (dVar 1) (aCons (dOp pMod (dVar 0) (dVar 1)) aNil)))) (sRet (dVar 0)))
theorem ok__law_gcd  {m : Fn} (T : Txt a K mg cl)  (hd : Does 2 (D__law_gcd ) m) : FnOk P w K mg base (L2.CX P w) 1 a.f__law_gcd a.d__law_gcd ["one", "other"] (spD K cl 2 m) := by
  refine def_ok (b := D__law_gcd ) T.fn__law_gcd sc__law_gcd rfl (by decide) hd fun cdv A outer s H E e hr tk => ?_
  have nd := sc__law_gcd.nd
  exact (s_cons (s_while (passes_of rfl) (c_gt (d_var (pv 1)) d_int) (s_one (s_par2 (ps_par (i := 0) (j := 1) (by rfl) nd rfl rfl (by decide) rfl rfl (d_acons (d_var (pv 1)) (d_acons (e_mod (d_var (pv 0)) (d_var (pv 1))) d_anil)) (by rfl))))) (s_one (s_ret (d_var (pv 0)))))
theorem sc__law_odd : FnScope ["rows", "counts", "one"] ["rows"] (defScope s__law_odd) := ⟨rfl, rfl, rfl, by decide +kernel, rfl, by decide +kernel, by decide +kernel⟩
noncomputable def D__law_odd  : DS := (sSeq (sSet 1 dNewD) (sSeq (sFor (iL (dVar 0)) (tgN 2) (sPutD (dVar 1) (dVar 2) (dOp pAdd (dGetD (dVar 1) (dVar 2) (dC (.int 0))) (dC (.int 1))))) (sRet (dComp (iL (dBi (b1 srtD) (aCons (dVar 1) aNil))) (tgN 2) [2] (bTest (dOp pEq (dOp pMod (dSubD (dVar 1) (dVar 2)) (dC (.int 2))) (dC (.int 1)))) (dVar 2)))))
theorem ok__law_odd  {m : Fn} (T : Txt a K mg cl)  (hd : Does 3 (D__law_odd ) m) : FnOk P w K mg base (L2.CX P w) 1 a.f__law_odd a.d__law_odd ["rows"] (spD K cl 1 m) := by
  refine def_ok (b := D__law_odd ) T.fn__law_odd sc__law_odd rfl (by decide) hd fun cdv A outer s H E e hr tk => ?_
  have nd := sc__law_odd.nd
  exact (s_cons (s_set (ps_set (i := 1) nd rfl (Or.inr rfl) d_newd)) (s_cons (s_for it_list td_name (ps_for (passes_of rfl) (by rfl) (pi_list (d_var (pv 0))) (pg_name (i := 2) nd rfl (Or.inl rfl)) (s_one (s_putd (ps_dput (hu_of hr) (d_var (pv 1)) (d_var (pv 2)) (e_add (d_getd (pe_dget2 (hu_of hr) (d_var (pv 1)) (d_var (pv 2)) d_int ⟨by rfl, by rfl, by rfl, by rfl⟩)) d_int) (by rfl)))))) (s_one (s_ret (d_lc ic_list (tc_name (by decide)) (pe_lc (own := [("one", 2)]) (by rfl) nd (pi_list (e_srtD (by rfl) (by rfl) T.z_sorted (d_acons (d_var (pv 1)) d_anil))) (blkOk_by (N := ["rows", "counts", "one"]) (sc := defScope s__law_odd) (by decide +kernel)) (fun _ _ _ _ _ => (pg_name (i := 2) nd rfl (Or.inl rfl))) (fun _ _ _ _ _ => (pts_one (pt_ex fun e => (c_eq (hu := hr.units) (e_mod (d_subd (pe_dget (hu_of hr) (d_var (pv 1)) (d_var (pv 2)) (fun _ _ => by rfl))) d_int) d_int)))) (fun _ _ _ _ _ => pe_ex fun e => (d_var (pv 2)))))))))
theorem sc__law_holds : FnScope ["rows", "one_number", "one"] ["rows", "one_number"] (defScope s__law_holds) := ⟨rfl, rfl, rfl, by decide +kernel, rfl, by decide +kernel, by decide +kernel⟩
noncomputable def D__law_holds  : DS := (sRet (dOp pEq (dOp pMod (dBi (b1 lenD) (aCons (dFz (dCompV 0 (tgN 2) [2] (bTest (dOp pEq (dOp pMod (dVar 1) (dVar 2)) (dC (.int 0)))) (dVar 2))) aNil)) (dC (.int 2))) (dC (.int 1))))
theorem ok__law_holds  {m : Fn} (T : Txt a K mg cl)  (hd : Does 3 (D__law_holds ) m) : FnOk P w K mg base (L2.CX P w) 1 a.f__law_holds a.d__law_holds ["rows", "one_number"] (spD K cl 2 m) := by
  refine def_ok (b := D__law_holds ) T.fn__law_holds sc__law_holds rfl (by decide) hd fun cdv A outer s H E e hr tk => ?_
  have nd := sc__law_holds.nd
  exact (s_one (s_ret (e_eq (hu := hr.units) (e_mod (e_len (by rfl) T.z_len (d_acons (d_fz (d_lcV (tc_name (by decide)) (pe_lc (own := [("one", 2)]) (by rfl) nd (pi_list (pv 0)) (blkOk_by (N := ["rows", "one_number", "one"]) (sc := defScope s__law_holds) (by decide +kernel)) (fun _ _ _ _ _ => (pg_name (i := 2) nd rfl (Or.inl rfl))) (fun _ _ _ _ _ => (pts_one (pt_ex fun e => (c_eq (hu := hr.units) (e_mod (d_var (pv 1)) (d_var (pv 2))) d_int)))) (fun _ _ _ _ _ => pe_ex fun e => (d_var (pv 2)))))) d_anil)) d_int) d_int)))
theorem sc__law_one : FnScope ["tape", "way", "found", "prime", "most", "turn"] ["tape", "way"] (defScope s__law_one) := ⟨rfl, rfl, rfl, by decide +kernel, rfl, by decide +kernel, by decide +kernel⟩
noncomputable def D__law_one (m__law_next : Fn) : DS := (sSeq (sIf (bTest (dOp pEq (dVar 1) (dC (.int 0)))) (sRet (dOp pAdd (dC (.int 1)) (dFz (dCall 2 m__law_next (aCons (dVar 0) (aCons (dC (.int 12)) aNil)))))) sNext) (sSeq (sIf (bTest (dOp pEq (dVar 1) (dC (.int 1)))) (sSeq (sSet 2 (dC (.int 1))) (sSeq (sFor (iL (dLst (aCons (dTup (aCons (dC (.int 2)) (aCons (dC (.int 12)) aNil))) (aCons (dTup (aCons (dC (.int 3)) (aCons (dC (.int 7)) aNil))) (aCons (dTup (aCons (dC (.int 5)) (aCons (dC (.int 4)) aNil))) aNil))))) (tgT [(tgN 3), (tgN 4)]) (sFor (iA rng1 (aCons (dFz (dCall 2 m__law_next (aCons (dVar 0) (aCons (dVar 4) aNil)))) aNil)) (tgN 5) (sSet 2 (dOp pMul (dVar 2) (dVar 3))))) (sRet (dVar 2)))) sNext) (sRet (dOp pIx (dFz (dLst (aCons (dOp pAdd (dC (.int 1)) (dFz (dCall 2 m__law_next (aCons (dVar 0) (aCons (dOp pSub (dOp pPow (dC (.int 10)) (dC (.int 20))) (dC (.int 1))) aNil))))) (aCons (dOp pSub (dOp pSub (dOp pPow (dC (.int 10)) (dC (.int 20))) (dC (.int 1))) (dFz (dCall 2 m__law_next (aCons (dVar 0) (aCons (dC (.int 5)) aNil))))) aNil)))) (dOp pMod (dVar 1) (dC (.int 2)))))))
theorem ok__law_one {m__law_next : Fn} {m : Fn} (T : Txt a K mg cl) (G__law_next : FnOk P w K mg base (L2.CX P w) 1 a.f__law_next a.d__law_next ["tape", "many"] (spD K cl 2 m__law_next)) (hd : Does 6 (D__law_one m__law_next) m) : FnOk P w K mg base (L2.CX P w) 2 a.f__law_one a.d__law_one ["tape", "way"] (spD K cl 2 m) := by
  refine def_ok (b := D__law_one m__law_next) T.fn__law_one sc__law_one rfl (by decide) hd fun cdv A outer s H E e hr tk => ?_
  have nd := sc__law_one.nd
  exact (s_cons (s_if (c_eq (hu := hr.units) (d_var (pv 1)) d_int) (s_one (s_ret (e_add d_int (d_fz (d_call G__law_next (hr.mono (by decide)) (by rfl) T.mg__law_next T.fn__law_next.kp (T.bd__law_next) tk (d_acons (d_var (pv 0)) (d_acons d_int d_anil))))))) s_nil) (s_cons (s_if (c_eq (hu := hr.units) (d_var (pv 1)) d_int) (s_cons (s_set (ps_set (i := 2) nd rfl (Or.inl rfl) d_int)) (s_cons (s_for it_list (td_tup (tds_cons td_name (tds_cons td_name tds_nil)) rfl) (ps_for (passes_of rfl) (by rfl) (pi_list (e_lst (d_acons (e_tup (d_acons d_int (d_acons d_int d_anil))) (d_acons (e_tup (d_acons d_int (d_acons d_int d_anil))) (d_acons (e_tup (d_acons d_int (d_acons d_int d_anil))) d_anil))))) (pg_tup (by rfl) (pgs_cons (pg_name (i := 3) nd rfl (Or.inl rfl)) (pgs_cons (pg_name (i := 4) nd rfl (Or.inl rfl)) pgs_nil))) (s_one (s_for it_rng1 td_name (ps_for (passes_of rfl) (by rfl) (pi_range1 (by rfl) T.z_range (d_acons (d_fz (d_call G__law_next (hr.mono (by decide)) (by rfl) T.mg__law_next T.fn__law_next.kp (T.bd__law_next) tk (d_acons (d_var (pv 0)) (d_acons (d_var (pv 4)) d_anil)))) d_anil)) (pg_name (i := 5) nd rfl (Or.inl rfl)) (s_one (s_set (ps_set (i := 2) nd rfl (Or.inl rfl) (e_mul (d_var (pv 2)) (d_var (pv 3))))))))))) (s_one (s_ret (d_var (pv 2)))))) s_nil) (s_one (s_ret (d_ix (d_fz (e_lst (d_acons (e_add d_int (d_fz (d_call G__law_next (hr.mono (by decide)) (by rfl) T.mg__law_next T.fn__law_next.kp (T.bd__law_next) tk (d_acons (d_var (pv 0)) (d_acons (e_sub (e_pow d_int d_int) d_int) d_anil))))) (d_acons (e_sub (e_sub (e_pow d_int d_int) d_int) (d_fz (d_call G__law_next (hr.mono (by decide)) (by rfl) T.mg__law_next T.fn__law_next.kp (T.bd__law_next) tk (d_acons (d_var (pv 0)) (d_acons d_int d_anil))))) d_anil)))) (e_mod (d_var (pv 1)) d_int))))))
theorem sc__law_rows : FnScope ["tape", "most", "way", "found", "turn"] ["tape", "most"] (defScope s__law_rows) := ⟨rfl, rfl, rfl, by decide +kernel, rfl, by decide +kernel, by decide +kernel⟩
noncomputable def D__law_rows (m__law_next : Fn) (m__law_one : Fn) : DS := (sSeq (sPar2 2 3 (aCons (dFz (dCall 2 m__law_next (aCons (dVar 0) (aCons (dC (.int 5)) aNil)))) (aCons (dCe (dLst aNil)) aNil))) (sSeq (sFor (iA rng1 (aCons (dFz (dCall 2 m__law_next (aCons (dVar 0) (aCons (dOp pAdd (dVar 1) (dC (.int 1))) aNil)))) aNil)) (tgN 4) (sDrop (dMt isL mApp (dVar 3) (aCons (dFz (dCall 2 m__law_one (aCons (dVar 0) (aCons (dOp pIx (dFz (dLst (aCons (dVar 2) (aCons (dFz (dCall 2 m__law_next (aCons (dVar 0) (aCons (dC (.int 4)) aNil)))) aNil)))) (dBi (b1 intD) (aCons (dOp pEq (dVar 2) (dC (.int 4))) aNil))) aNil)))) aNil)))) (sRet (dSortSet (dVar 3)))))
theorem ok__law_rows {m__law_next : Fn} {m__law_one : Fn} {m : Fn} (T : Txt a K mg cl) (G__law_next : FnOk P w K mg base (L2.CX P w) 1 a.f__law_next a.d__law_next ["tape", "many"] (spD K cl 2 m__law_next)) (G__law_one : FnOk P w K mg base (L2.CX P w) 2 a.f__law_one a.d__law_one ["tape", "way"] (spD K cl 2 m__law_one)) (hd : Does 5 (D__law_rows m__law_next m__law_one) m) : FnOk P w K mg base (L2.CX P w) 3 a.f__law_rows a.d__law_rows ["tape", "most"] (spD K cl 2 m) := by
  refine def_ok (b := D__law_rows m__law_next m__law_one) T.fn__law_rows sc__law_rows rfl (by decide) hd fun cdv A outer s H E e hr tk => ?_
  have nd := sc__law_rows.nd
  exact (s_cons (s_par2 (ps_par (i := 2) (j := 3) (by rfl) nd rfl rfl (by decide) rfl rfl (d_acons (d_fz (d_call G__law_next (hr.mono (by decide)) (by rfl) T.mg__law_next T.fn__law_next.kp (T.bd__law_next) tk (d_acons (d_var (pv 0)) (d_acons d_int d_anil)))) (d_acons (d_ce (e_lst d_anil)) d_anil)) (by rfl))) (s_cons (s_for it_rng1 td_name (ps_for (passes_of rfl) (by rfl) (pi_range1 (by rfl) T.z_range (d_acons (d_fz (d_call G__law_next (hr.mono (by decide)) (by rfl) T.mg__law_next T.fn__law_next.kp (T.bd__law_next) tk (d_acons (d_var (pv 0)) (d_acons (e_add (d_var (pv 1)) d_int) d_anil)))) d_anil)) (pg_name (i := 4) nd rfl (Or.inl rfl)) (s_one (s_drop (ps_expr (pe_w (pe_bm PySem.F.plainAttrs_list PySem.F.slot_list_append PySem.F.type_list_append mt_append (d_var (pv 3)) (d_acons (d_fz (d_call G__law_one (hr.mono (by decide)) (by rfl) T.mg__law_one T.fn__law_one.kp (T.bd__law_one) tk (d_acons (d_var (pv 0)) (d_acons (d_ix (d_fz (e_lst (d_acons (d_var (pv 2)) (d_acons (d_fz (d_call G__law_next (hr.mono (by decide)) (by rfl) T.mg__law_next T.fn__law_next.kp (T.bd__law_next) tk (d_acons (d_var (pv 0)) (d_acons d_int d_anil)))) d_anil)))) (e_int (by rfl) T.z_int (d_acons (e_eq (hu := hr.units) (d_var (pv 2)) d_int) d_anil))) d_anil)))) d_anil)) fun _ _ _ q => rd_mt (fun _ _ _ _ _ _ _ => isL_ty) md_app q)))))) (s_one (s_ret (e_sortset (by rfl) (by rfl) T.z_sorted (by rfl) T.z_set (d_var (pv 3)))))))
theorem sc__law_right : FnScope ["tape", "rows", "made", "numbers_here", "factors", "factor", "less", "more", "due", "one"] ["tape", "rows"] (defScope s__law_right) := ⟨rfl, rfl, rfl, by decide +kernel, rfl, by decide +kernel, by decide +kernel⟩
noncomputable def D__law_right (k_form_init : MkFn) (m__law_next : Fn) (m_form_spread : Fn) (m_form_scaled : Fn) (m__law_gcd : Fn) (m__law_odd : Fn) (m_form_divisors : Fn) (m_form_eq : Fn) (m_form_call : Fn) (m__law_holds : Fn) : DS := (sSeq (sPar2 2 3 (aCons (dFz (dMake 0 2 k_form_init (aCons (dFz (dBi (b1 listD) (aCons (dVar 1) aNil))) aNil))) (aCons (dFz (dListRg2 (dC (.int 1)) (dC (.int 13)))) aNil))) (sSeq (sSet 4 (dCe (dLst (aCons (dC (.int 1)) (aCons (dOp pAdd (dC (.int 2)) (dFz (dCall 2 m__law_next (aCons (dVar 0) (aCons (dC (.int 30)) aNil))))) (aCons (dOp pAdd (dC (.int 1)) (dFz (dCall 2 m__law_next (aCons (dVar 0) (aCons (dOp pPow (dC (.int 10)) (dC (.int 20))) aNil))))) (aCons (dC (.int 12)) aNil))))))) (sSeq (sIf (bTest (dOp pNe (dVar 1) (dFz (dLst aNil)))) (sSeq (sDrop (dMt isL mApp (dVar 4) (aCons (dOp pIx (dVar 1) (dFz (dCall 2 m__law_next (aCons (dVar 0) (aCons (dBi (b1 lenD) (aCons (dVar 1) aNil)) aNil))))) aNil))) (sSet 3 (dFz (dOp pAdd (dVar 3) (dFz (dLst (aCons (dOp pIx (dVar 1) (dFz (dCall 2 m__law_next (aCons (dVar 0) (aCons (dBi (b1 lenD) (aCons (dVar 1) aNil)) aNil))))) (aCons (dOp pMul (dOp pIx (dVar 1) (dC (.int 0))) (dOp pIx (dVar 1) (dUn pNeg (dC (.int 1))))) aNil)))))))) sNext) (sSeq (sFor (iL (dShare 4)) (tgN 5) (sSeq (sPar2 6 7 (aCons (dFz (dMeth 0 2 "scaled" m_form_scaled (dVar 2) (aCons (dVar 5) aNil))) (aCons (dFz (dMeth 0 2 "spread" m_form_spread (dVar 2) (aCons (dVar 5) aNil))) aNil))) (sSeq (sSet 8 (dFz (dCall 1 m__law_odd (aCons (dFz (dCompV 1 (tgN 9) [9] bYes (dOp pDiv (dVar 9) (dFz (dCall 2 m__law_gcd (aCons (dVar 9) (aCons (dVar 5) aNil))))))) aNil)))) (sSeq (sIf (bTest (dOp pNe (dBi (b1 reprD) (aCons (dFz (dLst (aCons (dFz (dProp 0 1 m_form_divisors (dVar 6))) (aCons (dFz (dProp 0 1 m_form_divisors (dVar 7))) aNil)))) aNil)) (dBi (b1 reprD) (aCons (dFz (dLst (aCons (dVar 8) (aCons (dFz (dCompV 1 (tgN 9) [9] bYes (dOp pMul (dVar 9) (dVar 5)))) aNil)))) aNil)))) (sRet (dC (.bl false))) sNext) (sSeq (sIf (bOr (bNot (bTest (dEqO 0 2 m_form_eq (dFz (dMethK 0 2 1 "scaled" m_form_scaled [0, 1] (dVar 2) (aCons (dVar 5) aNil))) (dVar 6)))) (bNot (bTest (dEqO 0 2 m_form_eq (dFz (dMethK 0 2 1 "spread" m_form_spread [0, 1] (dVar 2) (aCons (dVar 5) aNil))) (dVar 7))))) (sRet (dC (.bl false))) sNext) (sSeq (sIf (bNot (bTest (dEqO 0 2 m_form_eq (dFz (dMeth 0 2 "scaled" m_form_scaled (dVar 7) (aCons (dVar 5) aNil))) (dVar 2)))) (sRet (dC (.bl false))) sNext) (sFor (iL (dVar 3)) (tgN 9) (sSeq (sIf (bOr (bTest (dOp pNe (dCallO 0 2 m_form_call (dVar 6) (aCons (dVar 9) aNil)) (dCallO 0 2 m_form_call (dVar 2) (aCons (dOp pMul (dVar 9) (dVar 5)) aNil)))) (bTest (dOp pNe (dCallO 0 2 m_form_call (dVar 6) (aCons (dVar 9) aNil)) (dFz (dCall 2 m__law_holds (aCons (dVar 1) (aCons (dOp pMul (dVar 9) (dVar 5)) aNil))))))) (sRet (dC (.bl false))) sNext) (sSeq (sIf (bTest (dOp pNe (dCallO 0 2 m_form_call (dVar 7) (aCons (dVar 9) aNil)) (dAnd (dOp pEq (dOp pMod (dVar 9) (dVar 5)) (dC (.int 0))) (dFz (dCall 2 m__law_holds (aCons (dVar 1) (aCons (dOp pDiv (dVar 9) (dVar 5)) aNil))))))) (sRet (dC (.bl false))) sNext) (sIf (bTest (dOp pNe (dCallO 0 2 m_form_call (dVar 7) (aCons (dOp pMul (dVar 9) (dVar 5)) aNil)) (dCallO 0 2 m_form_call (dVar 2) (aCons (dVar 9) aNil)))) (sRet (dC (.bl false))) sNext)))))))))) (sRet (dOp pEq (dFz (dProp 0 1 m_form_divisors (dVar 2))) (dVar 1)))))))
theorem ok__law_right {m_form_init : Fn} {k_form_init : MkFn} {m__law_next : Fn} {m_form_spread : Fn} {m_form_scaled : Fn} {m__law_gcd : Fn} {m__law_odd : Fn} {m_form_divisors : Fn} {m_form_eq : Fn} {m_form_call : Fn} {m__law_holds : Fn} {m : Fn} (T : Txt a K mg cl) (G_form_init : FnOk P w K mg base (L2.CX P w) 4 a.f_form_init a.d_form_init ["self", "divisors"] (spD K cl 2 m_form_init)) (K_form_init : MkOk 0 m_form_init k_form_init) (G__law_next : FnOk P w K mg base (L2.CX P w) 1 a.f__law_next a.d__law_next ["tape", "many"] (spD K cl 2 m__law_next)) (G_form_spread : FnOk P w K mg base (L2.CX P w) 7 a.f_form_spread a.d_form_spread ["self", "number"] (spD K cl 2 m_form_spread)) (G_form_scaled : FnOk P w K mg base (L2.CX P w) 7 a.f_form_scaled a.d_form_scaled ["self", "number"] (spD K cl 2 m_form_scaled)) (G__law_gcd : FnOk P w K mg base (L2.CX P w) 1 a.f__law_gcd a.d__law_gcd ["one", "other"] (spD K cl 2 m__law_gcd)) (G__law_odd : FnOk P w K mg base (L2.CX P w) 1 a.f__law_odd a.d__law_odd ["rows"] (spD K cl 1 m__law_odd)) (G_form_divisors : FnOk P w K mg base (L2.CX P w) 1 a.f_form_divisors a.d_form_divisors ["self"] (spD K cl 1 m_form_divisors)) (G_form_eq : FnOk P w K mg base (L2.CX P w) 1 a.f_form_eq a.d_form_eq ["self", "other"] (spD K cl 2 m_form_eq)) (G_form_call : FnOk P w K mg base (L2.CX P w) 4 a.f_form_call a.d_form_call ["self", "number"] (spD K cl 2 m_form_call)) (G__law_holds : FnOk P w K mg base (L2.CX P w) 1 a.f__law_holds a.d__law_holds ["rows", "one_number"] (spD K cl 2 m__law_holds)) (hd : Does 10 (D__law_right k_form_init m__law_next m_form_spread m_form_scaled m__law_gcd m__law_odd m_form_divisors m_form_eq m_form_call m__law_holds) m) : FnG P w K mg base (L2.CX P w) 8 a.f__law_right a.d__law_right ["tape", "rows"] (spD K cl 2 m) := by
  refine def_g (b := D__law_right k_form_init m__law_next m_form_spread m_form_scaled m__law_gcd m__law_odd m_form_divisors m_form_eq m_form_call m__law_holds) T.fn__law_right sc__law_right rfl (by decide) hd fun cdv A outer s H E e hgd hr tk => ?_
  have nd := sc__law_right.nd
  exact (s_cons (s_par2 (ps_par (i := 2) (j := 3) (by rfl) nd rfl rfl (by decide) rfl rfl (d_acons (d_fz (d_make T.mk_Form G_form_init K_form_init (hr.mono (by decide)) (by rfl) T.mg_Form (T.bd_form_init) tk (d_acons (d_fz (e_list (by rfl) T.z_list (d_acons (d_var (pv 1)) d_anil))) d_anil))) (d_acons (d_fz (e_listRg2 (by rfl) (by rfl) T.z_list (by rfl) T.z_range d_int d_int)) d_anil)) (by rfl))) (s_cons (s_set (ps_set (i := 4) nd rfl (Or.inl rfl) (d_ce (e_lst (d_acons d_int (d_acons (e_add d_int (d_fz (d_call G__law_next (hr.mono (by decide)) (by rfl) T.mg__law_next T.fn__law_next.kp (T.bd__law_next) tk (d_acons (d_var (pv 0)) (d_acons d_int d_anil))))) (d_acons (e_add d_int (d_fz (d_call G__law_next (hr.mono (by decide)) (by rfl) T.mg__law_next T.fn__law_next.kp (T.bd__law_next) tk (d_acons (d_var (pv 0)) (d_acons (e_pow d_int d_int) d_anil))))) (d_acons d_int d_anil)))))))) (s_cons (s_if (c_ne (hu := hr.units) (d_var (pv 1)) (d_fz (e_lst d_anil))) (s_cons (s_drop (ps_expr (pe_w (pe_bm PySem.F.plainAttrs_list PySem.F.slot_list_append PySem.F.type_list_append mt_append (d_var (pv 4)) (d_acons (d_ix (d_var (pv 1)) (d_fz (d_call G__law_next (hr.mono (by decide)) (by rfl) T.mg__law_next T.fn__law_next.kp (T.bd__law_next) tk (d_acons (d_var (pv 0)) (d_acons (e_len (by rfl) T.z_len (d_acons (d_var (pv 1)) d_anil)) d_anil))))) d_anil)) fun _ _ _ q => rd_mt (fun _ _ _ _ _ _ _ => isL_ty) md_app q))) (s_one (s_set (ps_set (i := 3) nd rfl (Or.inl rfl) (d_fz (e_add (d_var (pv 3)) (d_fz (e_lst (d_acons (d_ix (d_var (pv 1)) (d_fz (d_call G__law_next (hr.mono (by decide)) (by rfl) T.mg__law_next T.fn__law_next.kp (T.bd__law_next) tk (d_acons (d_var (pv 0)) (d_acons (e_len (by rfl) T.z_len (d_acons (d_var (pv 1)) d_anil)) d_anil))))) (d_acons (e_mul (d_ix (d_var (pv 1)) d_int) (d_ix (d_var (pv 1)) (e_neg d_int))) d_anil)))))))))) s_nil) (s_cons (s_for it_list td_name (ps_for (passes_of rfl) (by rfl) (pi_list (d_share (pv 4))) (pg_name (i := 5) nd rfl (Or.inr rfl)) (s_cons (s_par2 (ps_par (i := 6) (j := 7) (by rfl) nd rfl rfl (by decide) rfl rfl (d_acons (d_fz (d_meth G_form_scaled (hr.mono (by decide)) (T.bd_form_scaled) tk T.cls T.me_form_scaled (d_var (pv 2)) (d_acons (d_var (pv 5)) d_anil))) (d_acons (d_fz (d_meth G_form_spread (hr.mono (by decide)) (T.bd_form_spread) tk T.cls T.me_form_spread (d_var (pv 2)) (d_acons (d_var (pv 5)) d_anil))) d_anil)) (by rfl))) (s_cons (s_set (ps_set (i := 8) nd rfl (Or.inl rfl) (d_fz (d_call G__law_odd (hr.mono (by decide)) (by rfl) T.mg__law_odd T.fn__law_odd.kp (T.bd__law_odd) tk (d_acons (d_fz (d_lcV (tc_name (by decide)) (pe_lc (own := [("one", 9)]) (by rfl) nd (pi_list (pv 1)) (blkOk_by (N := ["tape", "rows", "made", "numbers_here", "factors", "factor", "less", "more", "due", "one"]) (sc := defScope s__law_right) (by decide +kernel)) (fun _ _ _ _ _ => (pg_name (i := 9) nd rfl (Or.inl rfl))) (fun _ _ _ _ _ => pts_yes) (fun _ _ _ _ _ => pe_ex fun e => (e_div (d_var (pv 9)) (d_fz (d_call G__law_gcd (hr.mono (by decide)) (by rfl) T.mg__law_gcd T.fn__law_gcd.kp (T.bd__law_gcd) takesW0 (d_acons (d_var (pv 9)) (d_acons (d_var (pv 5)) d_anil))))))))) d_anil))))) (s_cons (s_if (c_ne (hu := hr.units) (e_repr hgd (room100 hr) (by rfl) T.z_repr (d_acons (d_fz (e_lst (d_acons (d_fz (d_prop G_form_divisors (hr.mono (by decide)) (T.bd_form_divisors) T.cls T.prop_form_divisors (d_var (pv 6)))) (d_acons (d_fz (d_prop G_form_divisors (hr.mono (by decide)) (T.bd_form_divisors) T.cls T.prop_form_divisors (d_var (pv 7)))) d_anil)))) d_anil)) (e_repr hgd (room100 hr) (by rfl) T.z_repr (d_acons (d_fz (e_lst (d_acons (d_var (pv 8)) (d_acons (d_fz (d_lcV (tc_name (by decide)) (pe_lc (own := [("one", 9)]) (by rfl) nd (pi_list (pv 1)) (blkOk_by (N := ["tape", "rows", "made", "numbers_here", "factors", "factor", "less", "more", "due", "one"]) (sc := defScope s__law_right) (by decide +kernel)) (fun _ _ _ _ _ => (pg_name (i := 9) nd rfl (Or.inl rfl))) (fun _ _ _ _ _ => pts_yes) (fun _ _ _ _ _ => pe_ex fun e => (e_mul (d_var (pv 9)) (d_var (pv 5))))))) d_anil)))) d_anil))) (s_one (s_ret d_bl)) s_nil) (s_cons (s_if (t_pw (t_or (t_not (c_own (p_eqO G_form_eq (hr.mono (by decide)) (T.bd_form_eq) tk T.notFirst T.fi_form_eq T.is_form_eq (d_fz (d_methK G_form_scaled (hr.mono (by decide)) T.kw_form_scaled_number tk T.cls T.me_form_scaled (d_var (pv 2)) (k_cons (d_var (pv 5)) k_nil))) (d_var (pv 6))))) (t_or1 (t_not (c_own (p_eqO G_form_eq (hr.mono (by decide)) (T.bd_form_eq) tk T.notFirst T.fi_form_eq T.is_form_eq (d_fz (d_methK G_form_spread (hr.mono (by decide)) T.kw_form_spread_number tk T.cls T.me_form_spread (d_var (pv 2)) (k_cons (d_var (pv 5)) k_nil))) (d_var (pv 7)))))))) (s_one (s_ret d_bl)) s_nil) (s_cons (s_if (t_not (c_own (p_eqO G_form_eq (hr.mono (by decide)) (T.bd_form_eq) tk T.notFirst T.fi_form_eq T.is_form_eq (d_fz (d_meth G_form_scaled (hr.mono (by decide)) (T.bd_form_scaled) tk T.cls T.me_form_scaled (d_var (pv 7)) (d_acons (d_var (pv 5)) d_anil))) (d_var (pv 2))))) (s_one (s_ret d_bl)) s_nil) (s_one (s_for it_list td_name (ps_for (passes_of rfl) (by rfl) (pi_list (d_var (pv 3))) (pg_name (i := 9) nd rfl (Or.inl rfl)) (s_cons (s_if (t_pw (t_or (c_ne (hu := hr.units) (d_callo G_form_call (hr.mono (by decide)) (T.bd_form_call) tk T.callo (d_var (pv 6)) (d_acons (d_var (pv 9)) d_anil)) (d_callo G_form_call (hr.mono (by decide)) (T.bd_form_call) tk T.callo (d_var (pv 2)) (d_acons (e_mul (d_var (pv 9)) (d_var (pv 5))) d_anil))) (t_or1 (c_ne (hu := hr.units) (d_callo G_form_call (hr.mono (by decide)) (T.bd_form_call) tk T.callo (d_var (pv 6)) (d_acons (d_var (pv 9)) d_anil)) (d_fz (d_call G__law_holds (hr.mono (by decide)) (by rfl) T.mg__law_holds T.fn__law_holds.kp (T.bd__law_holds) tk (d_acons (d_var (pv 1)) (d_acons (e_mul (d_var (pv 9)) (d_var (pv 5))) d_anil)))))))) (s_one (s_ret d_bl)) s_nil) (s_cons (s_if (c_ne (hu := hr.units) (d_callo G_form_call (hr.mono (by decide)) (T.bd_form_call) tk T.callo (d_var (pv 7)) (d_acons (d_var (pv 9)) d_anil)) (d_and (e_eq (hu := hr.units) (e_mod (d_var (pv 9)) (d_var (pv 5))) d_int) (d_one (d_fz (d_call G__law_holds (hr.mono (by decide)) (by rfl) T.mg__law_holds T.fn__law_holds.kp (T.bd__law_holds) tk (d_acons (d_var (pv 1)) (d_acons (e_div (d_var (pv 9)) (d_var (pv 5))) d_anil))))))) (s_one (s_ret d_bl)) s_nil) (s_one (s_if (c_ne (hu := hr.units) (d_callo G_form_call (hr.mono (by decide)) (T.bd_form_call) tk T.callo (d_var (pv 7)) (d_acons (e_mul (d_var (pv 9)) (d_var (pv 5))) d_anil)) (d_callo G_form_call (hr.mono (by decide)) (T.bd_form_call) tk T.callo (d_var (pv 2)) (d_acons (d_var (pv 9)) d_anil))) (s_one (s_ret d_bl)) s_nil)))))))))))))) (s_one (s_ret (e_eq (hu := hr.units) (d_fz (d_prop G_form_divisors (hr.mono (by decide)) (T.bd_form_divisors) T.cls T.prop_form_divisors (d_var (pv 2)))) (d_var (pv 1)))))))))
theorem sc_law : FnScope ["script", "k", "tape", "most", "rows", "far", "less", "more", "due", "one", "made", "factor", "whole", "turn", "four_six"] ["script"] (defScope s_law) := ⟨rfl, rfl, rfl, by decide +kernel, rfl, by decide +kernel, by decide +kernel⟩
noncomputable def D_law (m__law_tape : Fn) (m__law_rows : Fn) (m__law_right : Fn) (m__law_next : Fn) (k_form_init : MkFn) (m_form_spread : Fn) (m_form_scaled : Fn) (m__law_gcd : Fn) (m__law_odd : Fn) (m_form_divisors : Fn) (m_form_contains : Fn) (m_form_call : Fn) (m__law_holds : Fn) (m_form_eq : Fn) : DS := (sSeq (sFor (iA rng1 (aCons (dBi (b2 maxD) (aCons (dC (.int 1)) (aCons (dBi (b2 minD) (aCons (dC (.int 3)) (aCons (dBi (b1 lenD) (aCons (dVar 0) aNil)) aNil))) aNil))) aNil)) (tgN 1) (sSeq (sSet 2 (dCe (dCall 2 m__law_tape (aCons (dVar 0) (aCons (dVar 1) aNil))))) (sSeq (sFor (iL (dLst (aCons (dC (.int 3)) (aCons (dC (.int 6)) (aCons (dC (.int 12)) (aCons (dC (.int 20)) aNil)))))) (tgN 3) (sSeq (sSet 4 (dFz (dCall 2 m__law_rows (aCons (dVar 2) (aCons (dVar 3) aNil))))) (sIf (bNot (bTest (dFz (dCall 2 m__law_right (aCons (dVar 2) (aCons (dVar 4) aNil)))))) (sRet (dC (.bl false))) sNext))) (sSeq (sSet 5 (dOp pAdd (dOp pAdd (dOp pPow (dC (.int 10)) (dC (.int 59))) (dC (.int 1))) (dFz (dCall 2 m__law_next (aCons (dVar 2) (aCons (dOp pPow (dC (.int 10)) (dC (.int 20))) aNil)))))) (sSeq (sPar2 6 7 (aCons (dFz (dMeth 0 2 "scaled" m_form_scaled (dFz (dMake 0 2 k_form_init (aCons (dFz (dBi (b1 listD) (aCons (dVar 4) aNil))) aNil))) (aCons (dVar 5) aNil))) (aCons (dFz (dMeth 0 2 "spread" m_form_spread (dFz (dMake 0 2 k_form_init (aCons (dFz (dBi (b1 listD) (aCons (dVar 4) aNil))) aNil))) (aCons (dVar 5) aNil))) aNil))) (sSeq (sSet 8 (dFz (dCall 1 m__law_odd (aCons (dFz (dCompV 4 (tgN 9) [9] bYes (dOp pDiv (dVar 9) (dFz (dCall 2 m__law_gcd (aCons (dVar 9) (aCons (dVar 5) aNil))))))) aNil)))) (sSeq (sIf (bOr (bTest (dOp pNe (dFz (dProp 0 1 m_form_divisors (dVar 6))) (dVar 8))) (bTest (dOp pNe (dFz (dProp 0 1 m_form_divisors (dVar 7))) (dFz (dCompV 4 (tgN 9) [9] bYes (dOp pMul (dVar 9) (dVar 5))))))) (sRet (dC (.bl false))) sNext) (sSeq (sAsg (tgT [(tgN 10), (tgN 11)]) (dTup (aCons (dFz (dMake 0 2 k_form_init (aCons (dFz (dBi (b1 listD) (aCons (dVar 4) aNil))) aNil))) (aCons (dOp pSub (dOp pSub (dOp pPow (dC (.int 10)) (dC (.int 20))) (dC (.int 1))) (dFz (dCall 2 m__law_next (aCons (dVar 2) (aCons (dC (.int 9)) aNil))))) aNil)))) (sSeq (sSet 12 (dC (.int 1))) (sSeq (sFor (iA rng1 (aCons (dC (.int 6)) aNil)) (tgN 13) (sAsg (tgT [(tgN 10), (tgN 12)]) (dTup (aCons (dFz (dMeth 0 2 "spread" m_form_spread (dVar 10) (aCons (dVar 11) aNil))) (aCons (dOp pMul (dVar 12) (dVar 11)) aNil))))) (sSeq (sIf (bTest (dOp pNe (dFz (dProp 0 1 m_form_divisors (dVar 10))) (dFz (dCompV 4 (tgN 9) [9] bYes (dOp pMul (dVar 9) (dVar 12)))))) (sRet (dC (.bl false))) sNext) (sSeq (sIf (bTest (dOp pNe (dFz (dComp (iL (dProp 0 1 m_form_divisors (dVar 10))) (tgN 9) [9] (bOr (bTest (dNotInO 0 m_form_contains (dVar 9) (dVar 10))) (bTest (dOp pNe (dCallO 0 2 m_form_call (dVar 10) (aCons (dVar 9) aNil)) (dFz (dCall 2 m__law_holds (aCons (dVar 4) (aCons (dOp pDiv (dVar 9) (dVar 12)) aNil))))))) (dVar 9))) (dFz (dLst aNil)))) (sRet (dC (.bl false))) sNext) (sSeq (sFor (iA rng1 (aCons (dC (.int 6)) aNil)) (tgN 13) (sSet 10 (dFz (dMeth 0 2 "scaled" m_form_scaled (dVar 10) (aCons (dVar 11) aNil))))) (sIf (bNot (bTest (dEqO 0 2 m_form_eq (dVar 10) (dFz (dMake 0 2 k_form_init (aCons (dFz (dBi (b1 listD) (aCons (dVar 4) aNil))) aNil)))))) (sRet (dC (.bl false))) sNext)))))))))))))) (sSeq (sSet 14 (dFz (dMake 0 2 k_form_init (aCons (dFz (dLst (aCons (dC (.int 4)) (aCons (dC (.int 6)) aNil)))) aNil)))) (sRet (dAnd (dOp pEq (dFz (dLst (aCons (dFz (dProp 0 1 m_form_divisors (dFz (dMeth 0 2 "scaled" m_form_scaled (dVar 14) (aCons (dC (.int 2)) aNil))))) (aCons (dFz (dProp 0 1 m_form_divisors (dFz (dMeth 0 2 "scaled" m_form_scaled (dVar 14) (aCons (dC (.int 12)) aNil))))) aNil)))) (dFz (dLst (aCons (dFz (dLst (aCons (dC (.int 2)) (aCons (dC (.int 3)) aNil)))) (aCons (dFz (dLst aNil)) aNil))))) (dCallO 0 2 m_form_call (dFz (dMeth 0 2 "spread" m_form_spread (dFz (dMake 0 2 k_form_init (aCons (dFz (dLst (aCons (dC (.int 1)) aNil))) aNil))) (aCons (dC (.int 5)) aNil))) (aCons (dC (.int 10)) aNil))))))
theorem ok_law {m__law_tape : Fn} {m__law_rows : Fn} {m__law_right : Fn} {m__law_next : Fn} {m_form_init : Fn} {k_form_init : MkFn} {m_form_spread : Fn} {m_form_scaled : Fn} {m__law_gcd : Fn} {m__law_odd : Fn} {m_form_divisors : Fn} {m_form_contains : Fn} {m_form_call : Fn} {m__law_holds : Fn} {m_form_eq : Fn} {m : Fn} (T : Txt a K mg cl) (G__law_tape : FnOk P w K mg base (L2.CX P w) 1 a.f__law_tape a.d__law_tape ["script", "k"] (spD K cl 2 m__law_tape)) (G__law_rows : FnOk P w K mg base (L2.CX P w) 3 a.f__law_rows a.d__law_rows ["tape", "most"] (spD K cl 2 m__law_rows)) (G__law_right : FnG P w K mg base (L2.CX P w) 8 a.f__law_right a.d__law_right ["tape", "rows"] (spD K cl 2 m__law_right)) (G__law_next : FnOk P w K mg base (L2.CX P w) 1 a.f__law_next a.d__law_next ["tape", "many"] (spD K cl 2 m__law_next)) (G_form_init : FnOk P w K mg base (L2.CX P w) 4 a.f_form_init a.d_form_init ["self", "divisors"] (spD K cl 2 m_form_init)) (K_form_init : MkOk 0 m_form_init k_form_init) (G_form_spread : FnOk P w K mg base (L2.CX P w) 7 a.f_form_spread a.d_form_spread ["self", "number"] (spD K cl 2 m_form_spread)) (G_form_scaled : FnOk P w K mg base (L2.CX P w) 7 a.f_form_scaled a.d_form_scaled ["self", "number"] (spD K cl 2 m_form_scaled)) (G__law_gcd : FnOk P w K mg base (L2.CX P w) 1 a.f__law_gcd a.d__law_gcd ["one", "other"] (spD K cl 2 m__law_gcd)) (G__law_odd : FnOk P w K mg base (L2.CX P w) 1 a.f__law_odd a.d__law_odd ["rows"] (spD K cl 1 m__law_odd)) (G_form_divisors : FnOk P w K mg base (L2.CX P w) 1 a.f_form_divisors a.d_form_divisors ["self"] (spD K cl 1 m_form_divisors)) (G_form_contains : FnOk P w K mg base (L2.CX P w) 3 a.f_form_contains a.d_form_contains ["self", "thing"] (spD K cl 2 m_form_contains)) (G_form_call : FnOk P w K mg base (L2.CX P w) 4 a.f_form_call a.d_form_call ["self", "number"] (spD K cl 2 m_form_call)) (G__law_holds : FnOk P w K mg base (L2.CX P w) 1 a.f__law_holds a.d__law_holds ["rows", "one_number"] (spD K cl 2 m__law_holds)) (G_form_eq : FnOk P w K mg base (L2.CX P w) 1 a.f_form_eq a.d_form_eq ["self", "other"] (spD K cl 2 m_form_eq)) (hd : Does 15 (D_law m__law_tape m__law_rows m__law_right m__law_next k_form_init m_form_spread m_form_scaled m__law_gcd m__law_odd m_form_divisors m_form_contains m_form_call m__law_holds m_form_eq) m) : FnG P w K mg base (L2.CX P w) 9 a.f_law a.d_law ["script"] (spD K cl 1 m) := by
  refine def_g (b := D_law m__law_tape m__law_rows m__law_right m__law_next k_form_init m_form_spread m_form_scaled m__law_gcd m__law_odd m_form_divisors m_form_contains m_form_call m__law_holds m_form_eq) T.fn_law sc_law rfl (by decide) hd fun cdv A outer s H E e hgd hr tk => ?_
  have nd := sc_law.nd
  exact (s_cons (s_for it_rng1 td_name (ps_for (passes_of rfl) (by rfl) (pi_range1 (by rfl) T.z_range (d_acons (e_max (by rfl) (by rfl) T.z_max (d_acons d_int (d_acons (e_min (by rfl) (by rfl) T.z_min (d_acons d_int (d_acons (e_len (by rfl) T.z_len (d_acons (d_var (pv 0)) d_anil)) d_anil))) d_anil))) d_anil)) (pg_name (i := 1) nd rfl (Or.inl rfl)) (s_cons (s_set (ps_set (i := 2) nd rfl (Or.inl rfl) (d_ce (d_call G__law_tape (hr.mono (by decide)) (by rfl) T.mg__law_tape T.fn__law_tape.kp (T.bd__law_tape) tk (d_acons (d_var (pv 0)) (d_acons (d_var (pv 1)) d_anil)))))) (s_cons (s_for it_list td_name (ps_for (passes_of rfl) (by rfl) (pi_list (e_lst (d_acons d_int (d_acons d_int (d_acons d_int (d_acons d_int d_anil)))))) (pg_name (i := 3) nd rfl (Or.inl rfl)) (s_cons (s_set (ps_set (i := 4) nd rfl (Or.inr rfl) (d_fz (d_call G__law_rows (hr.mono (by decide)) (by rfl) T.mg__law_rows T.fn__law_rows.kp (T.bd__law_rows) tk (d_acons (d_var (pv 2)) (d_acons (d_var (pv 3)) d_anil)))))) (s_one (s_if (t_not (t_val (d_fz (d_callG G__law_right hgd (hr.mono (by decide)) (by rfl) T.mg__law_right T.fn__law_right.kp (T.bd__law_right) tk (d_acons (d_var (pv 2)) (d_acons (d_var (pv 4)) d_anil)))))) (s_one (s_ret d_bl)) s_nil))))) (s_cons (s_set (ps_set (i := 5) nd rfl (Or.inr rfl) (e_add (e_add (e_pow d_int d_int) d_int) (d_fz (d_call G__law_next (hr.mono (by decide)) (by rfl) T.mg__law_next T.fn__law_next.kp (T.bd__law_next) tk (d_acons (d_var (pv 2)) (d_acons (e_pow d_int d_int) d_anil))))))) (s_cons (s_par2 (ps_par (i := 6) (j := 7) (by rfl) nd rfl rfl (by decide) rfl rfl (d_acons (d_fz (d_meth G_form_scaled (hr.mono (by decide)) (T.bd_form_scaled) tk T.cls T.me_form_scaled (d_fz (d_make T.mk_Form G_form_init K_form_init (hr.mono (by decide)) (by rfl) T.mg_Form (T.bd_form_init) tk (d_acons (d_fz (e_list (by rfl) T.z_list (d_acons (d_var (pv 4)) d_anil))) d_anil))) (d_acons (d_var (pv 5)) d_anil))) (d_acons (d_fz (d_meth G_form_spread (hr.mono (by decide)) (T.bd_form_spread) tk T.cls T.me_form_spread (d_fz (d_make T.mk_Form G_form_init K_form_init (hr.mono (by decide)) (by rfl) T.mg_Form (T.bd_form_init) tk (d_acons (d_fz (e_list (by rfl) T.z_list (d_acons (d_var (pv 4)) d_anil))) d_anil))) (d_acons (d_var (pv 5)) d_anil))) d_anil)) (by rfl))) (s_cons (s_set (ps_set (i := 8) nd rfl (Or.inl rfl) (d_fz (d_call G__law_odd (hr.mono (by decide)) (by rfl) T.mg__law_odd T.fn__law_odd.kp (T.bd__law_odd) tk (d_acons (d_fz (d_lcV (tc_name (by decide)) (pe_lc (own := [("one", 9)]) (by rfl) nd (pi_list (pv 4)) (blkOk_by (N := ["script", "k", "tape", "most", "rows", "far", "less", "more", "due", "one", "made", "factor", "whole", "turn", "four_six"]) (sc := defScope s_law) (by decide +kernel)) (fun _ _ _ _ _ => (pg_name (i := 9) nd rfl (Or.inl rfl))) (fun _ _ _ _ _ => pts_yes) (fun _ _ _ _ _ => pe_ex fun e => (e_div (d_var (pv 9)) (d_fz (d_call G__law_gcd (hr.mono (by decide)) (by rfl) T.mg__law_gcd T.fn__law_gcd.kp (T.bd__law_gcd) takesW0 (d_acons (d_var (pv 9)) (d_acons (d_var (pv 5)) d_anil))))))))) d_anil))))) (s_cons (s_if (t_pw (t_or (c_ne (hu := hr.units) (d_fz (d_prop G_form_divisors (hr.mono (by decide)) (T.bd_form_divisors) T.cls T.prop_form_divisors (d_var (pv 6)))) (d_var (pv 8))) (t_or1 (c_ne (hu := hr.units) (d_fz (d_prop G_form_divisors (hr.mono (by decide)) (T.bd_form_divisors) T.cls T.prop_form_divisors (d_var (pv 7)))) (d_fz (d_lcV (tc_name (by decide)) (pe_lc (own := [("one", 9)]) (by rfl) nd (pi_list (pv 4)) (blkOk_by (N := ["script", "k", "tape", "most", "rows", "far", "less", "more", "due", "one", "made", "factor", "whole", "turn", "four_six"]) (sc := defScope s_law) (by decide +kernel)) (fun _ _ _ _ _ => (pg_name (i := 9) nd rfl (Or.inl rfl))) (fun _ _ _ _ _ => pts_yes) (fun _ _ _ _ _ => pe_ex fun e => (e_mul (d_var (pv 9)) (d_var (pv 5))))))))))) (s_one (s_ret d_bl)) s_nil) (s_cons (s_asg (td_tup (tds_cons td_name (tds_cons td_name tds_nil)) rfl) (ps_asg (e_tup (d_acons (d_fz (d_make T.mk_Form G_form_init K_form_init (hr.mono (by decide)) (by rfl) T.mg_Form (T.bd_form_init) tk (d_acons (d_fz (e_list (by rfl) T.z_list (d_acons (d_var (pv 4)) d_anil))) d_anil))) (d_acons (e_sub (e_sub (e_pow d_int d_int) d_int) (d_fz (d_call G__law_next (hr.mono (by decide)) (by rfl) T.mg__law_next T.fn__law_next.kp (T.bd__law_next) tk (d_acons (d_var (pv 2)) (d_acons d_int d_anil))))) d_anil))) (pg_tup (by rfl) (pgs_cons (pg_name (i := 10) nd rfl (Or.inr rfl)) (pgs_cons (pg_name (i := 11) nd rfl (Or.inl rfl)) pgs_nil))))) (s_cons (s_set (ps_set (i := 12) nd rfl (Or.inr rfl) d_int)) (s_cons (s_for it_rng1 td_name (ps_for (passes_of rfl) (by rfl) (pi_range1 (by rfl) T.z_range (d_acons d_int d_anil)) (pg_name (i := 13) nd rfl (Or.inl rfl)) (s_one (s_asg (td_tup (tds_cons td_name (tds_cons td_name tds_nil)) rfl) (ps_asg (e_tup (d_acons (d_fz (d_meth G_form_spread (hr.mono (by decide)) (T.bd_form_spread) tk T.cls T.me_form_spread (d_var (pv 10)) (d_acons (d_var (pv 11)) d_anil))) (d_acons (e_mul (d_var (pv 12)) (d_var (pv 11))) d_anil))) (pg_tup (by rfl) (pgs_cons (pg_name (i := 10) nd rfl (Or.inr rfl)) (pgs_cons (pg_name (i := 12) nd rfl (Or.inr rfl)) pgs_nil)))))))) (s_cons (s_if (c_ne (hu := hr.units) (d_fz (d_prop G_form_divisors (hr.mono (by decide)) (T.bd_form_divisors) T.cls T.prop_form_divisors (d_var (pv 10)))) (d_fz (d_lcV (tc_name (by decide)) (pe_lc (own := [("one", 9)]) (by rfl) nd (pi_list (pv 4)) (blkOk_by (N := ["script", "k", "tape", "most", "rows", "far", "less", "more", "due", "one", "made", "factor", "whole", "turn", "four_six"]) (sc := defScope s_law) (by decide +kernel)) (fun _ _ _ _ _ => (pg_name (i := 9) nd rfl (Or.inl rfl))) (fun _ _ _ _ _ => pts_yes) (fun _ _ _ _ _ => pe_ex fun e => (e_mul (d_var (pv 9)) (d_var (pv 12)))))))) (s_one (s_ret d_bl)) s_nil) (s_cons (s_if (c_ne (hu := hr.units) (d_fz (d_lc ic_list (tc_name (by decide)) (pe_lc (own := [("one", 9)]) (by rfl) nd (pi_list (d_prop G_form_divisors (hr.mono (by decide)) (T.bd_form_divisors) T.cls T.prop_form_divisors (d_var (pv 10)))) (blkOk_by (N := ["script", "k", "tape", "most", "rows", "far", "less", "more", "due", "one", "made", "factor", "whole", "turn", "four_six"]) (sc := defScope s_law) (by decide +kernel)) (fun _ _ _ _ _ => (pg_name (i := 9) nd rfl (Or.inl rfl))) (fun _ _ _ _ _ => (pts_one (pt_ex fun e => (t_pw (t_or (c_notinO (by first | rfl | with_unfolding_all rfl) (p_notinO G_form_contains (hr.mono (by decide)) (T.bd_form_contains) takesW0 T.fi_form_contains T.is_form_contains (d_var (pv 9)) (d_var (pv 10)))) (t_or1 (c_ne (hu := hr.units) (d_callo G_form_call (hr.mono (by decide)) (T.bd_form_call) takesW0 T.callo (d_var (pv 10)) (d_acons (d_var (pv 9)) d_anil)) (d_fz (d_call G__law_holds (hr.mono (by decide)) (by rfl) T.mg__law_holds T.fn__law_holds.kp (T.bd__law_holds) takesW0 (d_acons (d_var (pv 4)) (d_acons (e_div (d_var (pv 9)) (d_var (pv 12))) d_anil))))))))))) (fun _ _ _ _ _ => pe_ex fun e => (d_var (pv 9)))))) (d_fz (e_lst d_anil))) (s_one (s_ret d_bl)) s_nil) (s_cons (s_for it_rng1 td_name (ps_for (passes_of rfl) (by rfl) (pi_range1 (by rfl) T.z_range (d_acons d_int d_anil)) (pg_name (i := 13) nd rfl (Or.inl rfl)) (s_one (s_set (ps_set (i := 10) nd rfl (Or.inr rfl) (d_fz (d_meth G_form_scaled (hr.mono (by decide)) (T.bd_form_scaled) tk T.cls T.me_form_scaled (d_var (pv 10)) (d_acons (d_var (pv 11)) d_anil)))))))) (s_one (s_if (t_not (c_own (p_eqO G_form_eq (hr.mono (by decide)) (T.bd_form_eq) tk T.notFirst T.fi_form_eq T.is_form_eq (d_var (pv 10)) (d_fz (d_make T.mk_Form G_form_init K_form_init (hr.mono (by decide)) (by rfl) T.mg_Form (T.bd_form_init) tk (d_acons (d_fz (e_list (by rfl) T.z_list (d_acons (d_var (pv 4)) d_anil))) d_anil)))))) (s_one (s_ret d_bl)) s_nil)))))))))))))))) (s_cons (s_set (ps_set (i := 14) nd rfl (Or.inl rfl) (d_fz (d_make T.mk_Form G_form_init K_form_init (hr.mono (by decide)) (by rfl) T.mg_Form (T.bd_form_init) tk (d_acons (d_fz (e_lst (d_acons d_int (d_acons d_int d_anil)))) d_anil))))) (s_one (s_ret (d_and (e_eq (hu := hr.units) (d_fz (e_lst (d_acons (d_fz (d_prop G_form_divisors (hr.mono (by decide)) (T.bd_form_divisors) T.cls T.prop_form_divisors (d_fz (d_meth G_form_scaled (hr.mono (by decide)) (T.bd_form_scaled) tk T.cls T.me_form_scaled (d_var (pv 14)) (d_acons d_int d_anil))))) (d_acons (d_fz (d_prop G_form_divisors (hr.mono (by decide)) (T.bd_form_divisors) T.cls T.prop_form_divisors (d_fz (d_meth G_form_scaled (hr.mono (by decide)) (T.bd_form_scaled) tk T.cls T.me_form_scaled (d_var (pv 14)) (d_acons d_int d_anil))))) d_anil)))) (d_fz (e_lst (d_acons (d_fz (e_lst (d_acons d_int (d_acons d_int d_anil)))) (d_acons (d_fz (e_lst d_anil)) d_anil))))) (d_one (d_callo G_form_call (hr.mono (by decide)) (T.bd_form_call) tk T.callo (d_fz (d_meth G_form_spread (hr.mono (by decide)) (T.bd_form_spread) tk T.cls T.me_form_spread (d_fz (d_make T.mk_Form G_form_init K_form_init (hr.mono (by decide)) (by rfl) T.mg_Form (T.bd_form_init) tk (d_acons (d_fz (e_lst (d_acons d_int d_anil))) d_anil))) (d_acons d_int d_anil))) (d_acons d_int d_anil))))))))
end
end K06
set_option maxRecDepth 100000
set_option maxHeartbeats 4000000
namespace K06
open PySem PySem.Spec PyProof.Rows L2 Dv
/-! what the defs of forms say of data -/
def lstI : D → Option (List Int)
  | .lst xs => intsD xs
  | _ => none
abbrev lI (ns : List Int) : D := .lst (ns.map .int)
/-- a form with these divisors -/
abbrev fo (ns : List Int) : D := .obj 0 [("_held", lI ns)]
def heldI : D → Option (List Int)
  | .obj 0 [(k, d)] => if k = "_held" then lstI d else none
  | _ => none
theorem lstI_eq {d : D} {ns : List Int} (h : lstI d = some ns) : d = lI ns := by
  cases d with
  | lst xs => exact congrArg D.lst (intsD_eq h)
  | _ => cases h
theorem heldI_eq {d : D} {ns : List Int} (h : heldI d = some ns) : d = fo ns := by
  unfold heldI at h
  split at h
  · split at h
    · rename_i k x e
      subst e
      rw [lstI_eq h]
    · cases h
  · cases h
@[simp] theorem lstI_lI (ns : List Int) : lstI (lI ns) = some ns := intsD_map ns
@[simp] theorem heldI_fo (ns : List Int) : heldI (fo ns) = some ns := by
  show (if ("_held" : Str) = "_held" then lstI (lI ns) else none) = some ns
  rw [if_pos rfl, lstI_lI]

def m_is_number : Fn := fun ds ce => match ds with
  | [.int i] => .ok (.bl (decide (1 ≤ i))) ce
  | _ => .no
def m_is_integer : Fn := fun ds ce => match ds with
  | [.int _] => .ok (.bl true) ce
  | _ => .no
theorem does_is_integer : Does 1 D_is_integer m_is_integer := by
  intro ds ce hl
  unfold m_is_integer
  split
  · exact .inl ⟨_, rfl, rfl, Tail.id rfl⟩
  · trivial
theorem does_is_number : Does 1 (D_is_number m_is_integer) m_is_number := by
  intro ds ce hl
  unfold m_is_number
  split
  · exact .inl ⟨_, rfl, rfl, Tail.id rfl⟩
  · trivial
def m_check_from : Fn := fun ds ce => match ds with
  | [.int i, .int j] => if j ≤ i then .ok .non ce else .no
  | _ => .no
theorem does_check_from : Does 2 (D_check_from m_is_integer) m_check_from := by
  intro ds ce hl
  unfold m_check_from
  split
  · rename_i i j
    by_cases h : j ≤ i
    · rw [if_pos h]
      refine .inr ⟨rfl, ?_⟩
      have e : D_check_from m_is_integer (initS 2 [.int i, .int j] ce) = .nx (initS 2 [.int i, .int j] ce) := by
        show (if decide (i < j) = true then sNever _ else sNext _) = _
        rw [decide_eq_false (by omega)] <;> rfl
      exact ⟨_, e, Tail.id rfl⟩
    · rw [if_neg h]
      trivial
  · trivial
def m_check_number : Fn := fun ds ce => match ds with
  | [.int i] => if 1 ≤ i then .ok .non ce else .no
  | _ => .no
theorem does_check_number : Does 1 (D_check_number m_check_from) m_check_number := by
  intro ds ce hl
  unfold m_check_number
  split
  · rename_i i
    by_cases h : 1 ≤ i
    · rw [if_pos h]
      refine .inr ⟨rfl, ?_⟩
      have e : D_check_number m_check_from (initS 1 [.int i] ce) = .nx (initS 1 [.int i] ce) := by
        refine r_drop (d := .non) (r_cok (r_a2 rfl rfl) ?_ rfl)
        show (if (1 : Int) ≤ i then FR.ok .non ce else .no) = _
        rw [if_pos h] <;> rfl
      exact ⟨_, e, Tail.id rfl⟩
    · rw [if_neg h]
      trivial
  · trivial
/-- what Form takes -/
def good (ns : List Int) : Bool := decide (ns.length ≤ 200) && ns.all (fun i => decide (1 ≤ i) && decide (i < 100000000000000000000)) && (ns.zip (ns.drop 1)).all fun p => decide (p.1 < p.2)
def m_are_divisors : Fn := fun ds ce => match ds with
  | [d] => match lstI d with
    | some ns => if good ns = true then .ok (.bl true) ce else .no
    | none => .no
  | _ => .no
theorem pairs_ints : ∀ (a b : List Int), pairs (a.map .int) (b.map .int) = (a.zip b).map fun p => D.tup [.int p.1, .int p.2]
  | [], _ => by simp [pairs]
  | _ :: _, [] => by simp [pairs]
  | x :: a, y :: b => by
    have ih := pairs_ints a b
    show D.tup [.int x, .int y] :: pairs (a.map .int) (b.map .int) = _
    rw [ih] <;> rfl
theorem does_are_divisors : Does 4 (D_are_divisors m_is_number) m_are_divisors := by
  intro ds ce hl
  unfold m_are_divisors
  split
  · rename_i d
    cases e1 : lstI d with
    | none => trivial
    | some ns =>
      have ed := lstI_eq e1
      subst ed
      by_cases hg : good ns = true
      · show DoesK ce _ (if good ns = true then .ok (.bl true) ce else .no)
        rw [if_pos hg]
        unfold good at hg
        rw [Bool.and_eq_true, Bool.and_eq_true, decide_eq_true_iff] at hg
        obtain ⟨⟨h1, h2⟩, h3⟩ := hg
        refine .inl ⟨initS 4 [lI ns] ce, ?_, rfl, Tail.id rfl⟩
        have v0 : dVar 0 (initS 4 [lI ns] ce) = .ok (lI ns) (initS 4 [lI ns] ce) := rfl
        have al : ∀ (l : List D), dBi (b1 allD) (aCons (dC (.lst (l.map fun _ => D.bl true))) aNil) (initS 4 [lI ns] ce) = .ok (.bl true) (initS 4 [lI ns] ce) := fun l => by
          have e1 : (l.map fun _ => D.bl true) = (l.map fun _ => true).map D.bl := by rw [List.map_map] <;> rfl
          rw [r_bi (r_a1 (rfl : dC (.lst (l.map fun _ => D.bl true)) (initS 4 [lI ns] ce) = .ok (.lst (l.map fun _ => D.bl true)) (initS 4 [lI ns] ce)))]
          show poK _ (match blsD (l.map fun _ => D.bl true) with
            | some bs => Po.v (.bl (bs.all id))
            | none => .no) = _
          rw [e1, blsD_map]
          show R.ok (.bl ((l.map fun _ => true).all id)) _ = _
          rw [List.all_eq_true.mpr fun x hx => by
            obtain ⟨_, _, rfl⟩ := List.mem_map.mp hx
            rfl]
        -- the first test
        have t1 : (bOr (bNot (bTest (dUn (isiD okBt ansLst) (dVar 0)))) (bTest (dOp pGt (dBi (b1 lenD) (aCons (dVar 0) aNil)) (dC (.int 200))))) (initS 4 [lI ns] ce) = .ok false (initS 4 [lI ns] ce) := by
          show RB.ok (decide ((200 : Int) < ((ns.map D.int).length : Nat))) (initS 4 [lI ns] ce) = _
          rw [List.length_map, decide_eq_false (by omega)]
        -- the second
        have c1 : dCompV 0 (tgN 1) [1] bYes (dAnd (dFz (dCall 1 m_is_number (aCons (dVar 1) aNil))) (dOp pLt (dVar 1) (dC (.int 100000000000000000000)))) (initS 4 [lI ns] ce) = .nl ((ns.map D.int).map fun _ => .bl true) (initS 4 [lI ns] ce) := by
          show compL gYes _ _ _ _ (ns.map D.int) [] _ = _
          refine compL_all (fun _ => .bl true) rfl (fun d hd => ?_) (by simp; omega)
          obtain ⟨i, hi, rfl⟩ := List.mem_map.mp hd
          have hb := List.all_eq_true.mp h2 i hi
          rw [Bool.and_eq_true, decide_eq_true_iff, decide_eq_true_iff] at hb
          refine ⟨_, rfl, rfl, ?_⟩
          simp [dVar, dC, dFz, fzK, dCe, ceK, dOp, poK, bindR, dUn, bindRA, bindA, bindAR, aNil, aCons, dBi, dLst, dTup, bindRB, Dv.bindB, bindBR, bTest, blK, bAnd, bOr, bNot, dIf, blD, dAnd, dOr, dNot, frK, dCall, b1, b2, pAdd, pSub, pMul, pDiv, pMod, pCmp, inS, wipeD, initS, bYes, m_is_number, hb.1, hb.2]
        have c2 : dComp (iA zipU (aCons (dVar 0) (aCons (dFz (dSlice (dVar 0) (ptSome (dC (.int 1))) ptNone)) aNil))) (tgT [(tgN 2), (tgN 3)]) [2, 3] bYes (dOp pLt (dVar 2) (dVar 3)) (initS 4 [lI ns] ce) = .nl (((ns.zip (ns.drop 1)).map fun p => D.tup [.int p.1, .int p.2]).map fun _ => .bl true) (initS 4 [lI ns] ce) := by
          have ec : Dv.cutD (ns.map D.int) (some 1) none = (ns.drop 1).map .int := by
            unfold Dv.cutD
            show List.take (HT.sIx (ns.map D.int).length (ns.map D.int).length none - HT.sIx (ns.map D.int).length 0 (some ((1 : Nat) : Int))) (List.drop (HT.sIx (ns.map D.int).length 0 (some ((1 : Nat) : Int))) (ns.map D.int)) = _
            rw [HT.sIx_nat, HT.sIx_none, List.length_map, List.map_drop]
            cases ns with
            | nil => rfl
            | cons a r =>
              have e1 : min 1 (a :: r).length = 1 := by simp
              rw [e1]
              exact List.take_of_length_le (by simp)
          show compL gYes _ _ _ _ (pairs (ns.map D.int) (Dv.cutD (ns.map D.int) (some 1) none)) [] _ = _
          rw [ec, pairs_ints]
          refine compL_all (fun _ => .bl true) rfl (fun d hd => ?_) (by simp; omega)
          obtain ⟨q, hq, rfl⟩ := List.mem_map.mp hd
          have hb := of_decide_eq_true (List.all_eq_true.mp h3 q hq)
          refine ⟨_, rfl, rfl, ?_⟩
          show R.ok (.bl (decide (q.1 < q.2))) _ = _
          rw [decide_eq_true hb] <;> rfl
        unfold D_are_divisors
        refine (r_seq ((r_sif_f t1).trans rfl)).trans ((r_seq ((r_sif_f (r_bnot (b1' := true) (r_test (s1 := initS 4 [lI ns] ce) ?_))).trans rfl)).trans (r_ret ?_))
        · exact (r_bi (r_a1 (r_fz_nl c1))).trans ((r_bi (r_a1 rfl)).symm.trans (al (ns.map D.int)))
        · exact (r_bi (r_a1 (r_fz_nl c2))).trans ((r_bi (r_a1 rfl)).symm.trans (al _))
      · show DoesK ce _ (if good ns = true then .ok (.bl true) ce else .no)
        rw [if_neg hg]
        trivial
  · trivial

/-! odd_times -/
def togB : List (Int × Bool) → Int → List (Int × Bool)
  | [], n => [(n, true)]
  | (k, b) :: r, n => if k = n then (k, !b) :: r else (k, b) :: togB r n
def dicB (kv : List (Int × Bool)) : List (Key × D) := kv.map fun p => (Sum.inl p.1, D.bl p.2)
def valB : List (Int × Bool) → Int → Option Bool
  | [], _ => none
  | (k, b) :: r, n => if k = n then some b else valB r n
theorem inl_inj {a b : Int} : ((Sum.inl a : Key) = Sum.inl b) ↔ a = b := ⟨fun h => by cases h; rfl, fun h => by rw [h]⟩
theorem val_dicB (n : Int) : ∀ kv : List (Int × Bool), valKD (dicB kv) (.inl n) = (valB kv n).map D.bl
  | [] => rfl
  | (k, b) :: r => by
    have ih := val_dicB n r
    show (if (Sum.inl k : Key) = Sum.inl n then some (D.bl b) else valKD (dicB r) (.inl n)) = _
    unfold valB
    by_cases h : k = n
    · rw [if_pos (inl_inj.mpr h), if_pos h] <;> rfl
    · rw [if_neg (fun z => h (inl_inj.mp z)), if_neg h, ih]
theorem valB_none {n : Int} : ∀ {kv : List (Int × Bool)}, valB kv n = none → n ∉ kv.map (·.1)
  | [], _ => by simp
  | (k, b) :: r, h => by
    unfold valB at h
    by_cases e : k = n
    · rw [if_pos e] at h
      cases h
    · rw [if_neg e] at h
      rw [List.map_cons, List.mem_cons]
      rintro (z | z)
      · exact e z.symm
      · exact valB_none h z
theorem tog_none {n : Int} : ∀ {kv : List (Int × Bool)}, valB kv n = none → togB kv n = kv ++ [(n, true)]
  | [], _ => rfl
  | (k, b) :: r, h => by
    unfold valB at h
    unfold togB
    by_cases e : k = n
    · rw [if_pos e] at h
      cases h
    · rw [if_neg e] at h
      rw [if_neg e, tog_none h] <;> rfl
theorem map_fresh {n : Int} {d : D} : ∀ {kv : List (Int × Bool)}, n ∉ kv.map (·.1) → (dicB kv).map (fun p => (p.1, if p.1 = (Sum.inl n : Key) then d else p.2)) = dicB kv
  | [], _ => rfl
  | (k, b) :: r, h => by
    rw [List.map_cons, List.mem_cons, not_or] at h
    have ih := map_fresh (d := d) h.2
    have e : ¬ (Sum.inl k : Key) = Sum.inl n := fun z => h.1 (inl_inj.mp z).symm
    show (Sum.inl k, if (Sum.inl k : Key) = Sum.inl n then d else D.bl b) :: (dicB r).map _ = (Sum.inl k, D.bl b) :: dicB r
    rw [if_neg e, ih]
theorem tog_some {n : Int} {x : Bool} : ∀ {kv : List (Int × Bool)}, (kv.map (·.1)).Nodup → valB kv n = some x → (dicB kv).map (fun p => (p.1, if p.1 = (Sum.inl n : Key) then D.bl (!x) else p.2)) = dicB (togB kv n)
  | [], _, h => by cases h
  | (k, b) :: r, nd, h => by
    rw [List.map_cons, List.nodup_cons] at nd
    unfold valB at h
    unfold togB
    by_cases e : k = n
    · rw [if_pos e] at h
      cases h
      rw [if_pos e]
      subst e
      show (Sum.inl k, if (Sum.inl k : Key) = Sum.inl k then D.bl (!x) else D.bl x) :: (dicB r).map _ = (Sum.inl k, D.bl (!x)) :: dicB r
      rw [if_pos rfl, map_fresh nd.1]
    · rw [if_neg e] at h
      rw [if_neg e]
      have ih := tog_some nd.2 h
      show (Sum.inl k, if (Sum.inl k : Key) = Sum.inl n then D.bl (!x) else D.bl b) :: (dicB r).map _ = (Sum.inl k, D.bl b) :: dicB (togB r n)
      rw [if_neg (fun z => e (inl_inj.mp z)), ih]
theorem tog_keys {n : Int} : ∀ {kv : List (Int × Bool)}, (togB kv n).map (·.1) = if n ∈ kv.map (·.1) then kv.map (·.1) else kv.map (·.1) ++ [n]
  | [] => rfl
  | (k, b) :: r => by
    have ih := tog_keys (n := n) (kv := r)
    unfold togB
    by_cases e : k = n
    · rw [if_pos e, if_pos (by rw [List.map_cons, e]; exact List.mem_cons_self)] <;> rfl
    · rw [if_neg e, List.map_cons, ih, List.map_cons]
      by_cases h : n ∈ r.map (·.1)
      · rw [if_pos h, if_pos (List.mem_cons_of_mem _ h)]
      · rw [if_neg h, if_neg (fun z => by
          rcases List.mem_cons.mp z with y | y
          · exact e y.symm
          · exact h y)] <;> rfl
theorem tog_nodup {n : Int} {kv : List (Int × Bool)} (h : (kv.map (·.1)).Nodup) : ((togB kv n).map (·.1)).Nodup := by
  rw [tog_keys]
  by_cases e : n ∈ kv.map (·.1)
  · rw [if_pos e]
    exact h
  · rw [if_neg e, List.nodup_append]
    exact ⟨h, by simp, fun a ha b hb z => by
      have : b = n := by simpa using hb
      subst this
      subst z
      exact e ha⟩
theorem tog_len {n : Int} : ∀ {kv : List (Int × Bool)}, (togB kv n).length ≤ kv.length + 1
  | [] => Nat.le_refl _
  | (k, b) :: r => by
    have ih := tog_len (n := n) (kv := r)
    unfold togB
    split
    · simp
    · simpa using ih
def odB (ns : List Int) : List (Int × Bool) := ns.foldl togB []
theorem odB_snoc (ns : List Int) (n : Int) : odB (ns ++ [n]) = togB (odB ns) n := by
  unfold odB
  rw [List.foldl_append] <;> rfl
theorem odB_nodup_len (ns : List Int) : ∀ i, ((odB (ns.take i)).map (·.1)).Nodup ∧ (odB (ns.take i)).length ≤ i
  | 0 => ⟨List.nodup_nil, Nat.le_refl _⟩
  | i + 1 => by
    obtain ⟨h1, h2⟩ := odB_nodup_len ns i
    cases e : ns[i]? with
    | none =>
      have : ns.take (i + 1) = ns.take i := by rw [List.take_add_one, e]; simp
      rw [this]
      exact ⟨h1, by omega⟩
    | some n =>
      have : ns.take (i + 1) = ns.take i ++ [n] := by rw [List.take_add_one, e] <;> rfl
      rw [this, odB_snoc]
      exact ⟨tog_nodup h1, Nat.le_trans tog_len (by omega)⟩
theorem put_dicB {kv : List (Int × Bool)} {n : Int} (nd : (kv.map (·.1)).Nodup) : putKD (dicB kv) (.inl n) (.bl (!((valB kv n).getD false))) = dicB (togB kv n) := by
  unfold putKD
  rw [val_dicB]
  cases e : valB kv n with
  | none =>
    rw [tog_none e]
    show dicB kv ++ [(Sum.inl n, D.bl true)] = dicB (kv ++ [(n, true)])
    unfold dicB
    rw [List.map_append] <;> rfl
  | some x => exact tog_some nd e
/-- the numbers that stand there an odd number of times, ascending -/
def oddI (ns : List Int) : List Int := isortI (((odB ns).filter (·.2)).map (·.1))
theorem trues_dicB : ∀ kv : List (Int × Bool), truesK (dicB kv) = some (((kv.filter (·.2)).map (·.1)).map D.int)
  | [] => rfl
  | (k, b) :: r => by
    have ih := trues_dicB r
    show (truesK (dicB r)).map (fun l => if b = true then ofKey (.inl k) :: l else l) = _
    rw [ih]
    cases b with
    | true => rfl
    | false => rfl
def m_odd_times : Fn := fun ds ce => match ds with
  | [d] => match lstI d with
    | some ns => if ns.length < 100000 then .nl ((oddI ns).map .int) ce else .no
    | none => .no
  | _ => .no
def oddS (ns : List Int) (ce : List Cell) (i : Nat) : S := ⟨[some (lI ns), some (.rf ce.length), if i = 0 then none else (ns[i - 1]?).map .int], ce ++ [.dic (dicB (odB (ns.take i)))], ce.length⟩
theorem cell_last {ce : List Cell} {c : Cell} : (ce ++ [c])[ce.length]? = some c := by simp
theorem set_last {ce : List Cell} {c c' : Cell} : (ce ++ [c]).set ce.length c' = ce ++ [c'] := by simp
theorem does_odd_times : Does 3 D_odd_times m_odd_times := by
  intro ds ce hl
  unfold m_odd_times
  split
  · rename_i d
    cases e1 : lstI d with
    | none => trivial
    | some ns =>
      have ed := lstI_eq e1
      subst ed
      by_cases hg : ns.length < 100000
      · show DoesK ce _ (if ns.length < 100000 then .nl ((oddI ns).map .int) ce else .no)
        rw [if_pos hg]
        have l0 : (sSet 1 dNewD) (initS 3 [lI ns] ce) = .nx (oddS ns ce 0) := rfl
        have l1 : (sFor (iL (dVar 0)) (tgN 2) (sPutD (dVar 1) (dVar 2) (dNot (dGetD (dVar 1) (dVar 2) (dC (.bl false)))))) (oddS ns ce 0) = .nx (oddS ns ce ns.length) := by
          rw [r_for (r_iL (rfl : dVar 0 (oddS ns ce 0) = .ok (lI ns) (oddS ns ce 0)))]
          have := loop_run (t := tgN 2) (body := sPutD (dVar 1) (dVar 2) (dNot (dGetD (dVar 1) (dVar 2) (dC (.bl false))))) (oddS ns ce) (ns.map D.int) 0 fun j d hd => by
            rw [List.getElem?_map] at hd
            cases en : ns[j]? with
            | none =>
              rw [en] at hd
              cases hd
            | some n =>
              rw [en] at hd
              cases hd
              obtain ⟨nd, hle⟩ := odB_nodup_len ns j
              have hj : j < ns.length := (List.getElem?_eq_some_iff.mp en).1
              have et : ns.take (j + 1) = ns.take j ++ [n] := by rw [List.take_add_one, en] <;> rfl
              refine ⟨_, rfl, .inl ?_⟩
              have ev : dGetD (dVar 1) (dVar 2) (dC (.bl false)) ⟨(oddS ns ce (0 + j)).sl.set 2 (some (.int n)), (oddS ns ce (0 + j)).ce, (oddS ns ce (0 + j)).n0⟩ = .ok (.bl ((valB (odB (ns.take j)) n).getD false)) ⟨(oddS ns ce (0 + j)).sl.set 2 (some (.int n)), (oddS ns ce (0 + j)).ce, (oddS ns ce (0 + j)).n0⟩ := by
                rw [Nat.zero_add]
                unfold dGetD
                show (if (cellD (ce ++ [.dic (dicB (odB (ns.take j)))])[ce.length]?).isSome = true then _ else _) = _
                rw [cell_last]
                show (match cellD (ce ++ [Cell.dic (dicB (odB (ns.take j)))])[ce.length]?, some (Sum.inl n : Key) with
                  | some kvs, some k => R.ok ((valKD kvs k).getD (.bl false)) _
                  | _, _ => .no) = _
                rw [cell_last]
                show R.ok ((valKD (dicB (odB (ns.take j))) (.inl n)).getD (.bl false)) _ = _
                rw [val_dicB]
                cases valB (odB (ns.take j)) n <;> rfl
              unfold sPutD
              rw [r_not ev]
              show putK' _ (.bl (!((valB (odB (ns.take j)) n).getD false))) (.rf ce.length) (.int n) = _
              unfold putK'
              rw [Nat.zero_add]
              show (match cellD (ce ++ [Cell.dic (dicB (odB (ns.take j)))])[ce.length]?, some (Sum.inl n : Key) with
                | some kvs, some k => if kvs.length < 100000 then O.nx ⟨_, (ce ++ [Cell.dic (dicB (odB (ns.take j)))]).set ce.length (.dic (putKD kvs k _)), _⟩ else .no
                | _, _ => .no) = _
              rw [cell_last]
              show (if (dicB (odB (ns.take j))).length < 100000 then O.nx ⟨_, (ce ++ [Cell.dic (dicB (odB (ns.take j)))]).set ce.length (.dic (putKD (dicB (odB (ns.take j))) (.inl n) _)), _⟩ else .no) = _
              rw [if_pos (by unfold dicB; rw [List.length_map]; omega), set_last, put_dicB nd, ← odB_snoc, ← et]
              show O.nx ⟨[some (lI ns), some (.rf ce.length), some (.int n)], _, _⟩ = O.nx ⟨[some (lI ns), some (.rf ce.length), if j + 1 = 0 then none else (ns[j + 1 - 1]?).map .int], _, _⟩
              rw [if_neg (by omega), Nat.add_sub_cancel, en] <;> rfl
          rw [List.length_map, Nat.zero_add] at this
          exact this
        have l2 : dKeysT 1 2 (oddS ns ce ns.length) = .nl ((((odB ns).filter (·.2)).map (·.1)).map .int) (oddS ns ce ns.length) := by
          obtain ⟨nd, hle⟩ := odB_nodup_len ns ns.length
          rw [List.take_length] at nd hle
          unfold dKeysT
          have h23 : 2 < (oddS ns ce ns.length).sl.length := by
            show 2 < 3
            decide
          show (if 2 < (oddS ns ce ns.length).sl.length then keysTD (oddS ns ce ns.length) (cellD (ce ++ [Cell.dic (dicB (odB (ns.take ns.length)))])[ce.length]?) else .no) = _
          rw [if_pos h23, cell_last, List.take_length]
          show keysTK _ (dicB (odB ns)) (truesK (dicB (odB ns))) = _
          rw [trues_dicB]
          show (if (dicB (odB ns)).length ≤ 100000 ∧ ((dicB (odB ns)).map (·.1)).Nodup then R.nl _ _ else .no) = _
          have e5 : (dicB (odB ns)).map (·.1) = ((odB ns).map (·.1)).map Sum.inl := by
            unfold dicB
            rw [List.map_map, List.map_map] <;> rfl
          rw [if_pos ⟨by unfold dicB; rw [List.length_map]; omega, by
            rw [e5]
            exact List.Pairwise.map _ (fun a b h z => h (inl_inj.mp z)) nd⟩]
        refine ⟨oddS ns ce ns.length, ?_, ?_, Tail.same rfl⟩
        · refine (r_seq l0).trans ((r_seq l1).trans (r_ret_nl ?_))
          rw [r_bi (r_a1 (r_fz_nl l2))]
          show poK _ (match intsD ((((odB ns).filter (·.2)).map (·.1)).map D.int) with
            | some ns => Po.l ((isortI ns).map .int)
            | none => .no) = _
          rw [intsD_map] <;> rfl
        · exact lowL_ints _ _
      · show DoesK ce _ (if ns.length < 100000 then .nl ((oddI ns).map .int) ce else .no)
        rw [if_neg hg]
        trivial
  · trivial

/-! alone, common -/
def m_alone : Fn := fun ds ce => match ds with
  | [d1, d2] => match lstI d1, lstI d2 with
    | some a, some b => if a.length + b.length < 100000 then .nl ((oddI (a ++ b)).map .int) ce else .no
    | _, _ => .no
  | _ => .no
theorem does_alone : Does 2 (D_alone m_odd_times) m_alone := by
  intro ds ce hl
  unfold m_alone
  split
  · rename_i d1 d2
    cases e1 : lstI d1 with
    | none => trivial
    | some a =>
      cases e2 : lstI d2 with
      | none => trivial
      | some b =>
        have ed1 := lstI_eq e1
        have ed2 := lstI_eq e2
        subst ed1
        subst ed2
        by_cases hg : a.length + b.length < 100000
        · show DoesK ce _ (if a.length + b.length < 100000 then .nl ((oddI (a ++ b)).map .int) ce else .no)
          rw [if_pos hg]
          refine ⟨initS 2 [lI a, lI b] ce, r_ret_nl ?_, lowL_ints _ _, Tail.id rfl⟩
          have ea : dOp pAdd (dVar 0) (dVar 1) (initS 2 [lI a, lI b] ce) = .nl ((a ++ b).map .int) (initS 2 [lI a, lI b] ce) := by
            show poK _ (if (a.map D.int).length + (b.map D.int).length ≤ 100000 then Po.l (a.map D.int ++ b.map D.int) else .no) = _
            rw [if_pos (by rw [List.length_map, List.length_map]; omega), List.map_append] <;> rfl
          refine (r_call (r_a1 (r_fz_nl ea)) rfl).trans ?_
          show frK _ (match lstI (lI (a ++ b)) with
            | some ns => if ns.length < 100000 then .nl ((oddI ns).map .int) ce else .no
            | none => .no) = _
          rw [lstI_lI]
          show frK _ (if (a ++ b).length < 100000 then .nl ((oddI (a ++ b)).map .int) ce else .no) = _
          rw [if_pos (by rw [List.length_append]; omega)] <;> rfl
        · show DoesK ce _ (if a.length + b.length < 100000 then .nl ((oddI (a ++ b)).map .int) ce else .no)
          rw [if_neg hg]
          trivial
  · trivial
def lcmI (i j : Int) : Int := ((Nat.lcm i.natAbs j.natAbs : Nat) : Int)
def lcms (a b : List Int) : List Int := (a.map fun i => b.map (lcmI i)).flatten
def slim (a : List Int) : Bool := a.all fun i => decide (bits i < 6000)
def m_common : Fn := fun ds ce => match ds with
  | [d1, d2] => match lstI d1, lstI d2 with
    | some a, some b => if slim a = true ∧ slim b = true ∧ a.length * b.length < 100000 then .nl ((oddI (lcms a b)).map .int) ce else .no
    | _, _ => .no
  | _ => .no
theorem lcms_len (a b : List Int) : (lcms a b).length = a.length * b.length := by
  unfold lcms
  induction a with
  | nil => simp
  | cons x r ih =>
    rw [List.map_cons, List.flatten_cons, List.length_append, ih, List.length_map, List.length_cons, Nat.add_mul, Nat.one_mul]
    omega
theorem does_common : Does 4 (D_common m_odd_times) m_common := by
  intro ds ce hl
  unfold m_common
  split
  · rename_i d1 d2
    cases e1 : lstI d1 with
    | none => trivial
    | some a =>
      cases e2 : lstI d2 with
      | none => trivial
      | some b =>
        have ed1 := lstI_eq e1
        have ed2 := lstI_eq e2
        subst ed1
        subst ed2
        by_cases hg : slim a = true ∧ slim b = true ∧ a.length * b.length < 100000
        · show DoesK ce _ (if slim a = true ∧ slim b = true ∧ a.length * b.length < 100000 then .nl ((oddI (lcms a b)).map .int) ce else .no)
          rw [if_pos hg]
          obtain ⟨h1, h2, h3⟩ := hg
          refine ⟨initS 4 [lI a, lI b] ce, r_ret_nl ?_, lowL_ints _ _, Tail.id rfl⟩
          have ea : dComp2 (iL (dVar 0)) (tgN 2) [2, 3] bYes (iL (dVar 1)) (tgN 3) [3] bYes (dBi (b2 lcmD) (aCons (dVar 2) (aCons (dVar 3) aNil))) (initS 4 [lI a, lI b] ce) = .nl ((lcms a b).map .int) (initS 4 [lI a, lI b] ce) := by
            rw [r_comp2 (r_iL (rfl : dVar 0 (initS 4 [lI a, lI b] ce) = .ok (lI a) (initS 4 [lI a, lI b] ce)))]
            rw [compL2_pu (fun d y => match d, y with
              | .int i, .int j => .int (lcmI i j)
              | _, _ => .non) (b.map D.int) (fun d hd => ?_) (by rw [List.length_map, List.length_map]; omega)]
            · unfold lcms
              rw [List.map_flatten, List.map_map, List.map_map]
              refine congrArg (fun z => R.nl (List.flatten z) (initS 4 [lI a, lI b] ce)) (List.map_congr_left fun i _ => ?_)
              show (b.map D.int).map _ = (b.map (lcmI i)).map D.int
              rw [List.map_map, List.map_map] <;> rfl
            · obtain ⟨i, hi, rfl⟩ := List.mem_map.mp hd
              refine ⟨_, rfl, rfl, rfl, fun y hy => ?_⟩
              obtain ⟨j, hj, rfl⟩ := List.mem_map.mp hy
              refine ⟨_, rfl, rfl, ?_⟩
              have bi := of_decide_eq_true (List.all_eq_true.mp h1 i hi)
              have bj := of_decide_eq_true (List.all_eq_true.mp h2 j hj)
              show poK _ (if bits i < 6000 ∧ bits j < 6000 then Po.v (.int ((Nat.lcm i.natAbs j.natAbs : Nat) : Int)) else .no) = _
              rw [if_pos ⟨bi, bj⟩] <;> rfl
          refine (r_call (r_a1 (r_fz_nl ea)) rfl).trans ?_
          show frK _ (match lstI (lI (lcms a b)) with
            | some ns => if ns.length < 100000 then .nl ((oddI ns).map .int) ce else .no
            | none => .no) = _
          rw [lstI_lI]
          show frK _ (if (lcms a b).length < 100000 then .nl ((oddI (lcms a b)).map .int) ce else .no) = _
          rw [if_pos (by rw [lcms_len]; omega)] <;> rfl
        · show DoesK ce _ (if slim a = true ∧ slim b = true ∧ a.length * b.length < 100000 then .nl ((oddI (lcms a b)).map .int) ce else .no)
          rw [if_neg hg]
          trivial
  · trivial

/-! the divisors; a new form -/
def m_form_divisors : Fn := fun ds ce => match ds with
  | [d] => match heldI d with
    | some a => .nl (a.map .int) ce
    | none => .no
  | _ => .no
theorem held_run {s : S} {a : List Int} {i : Nat} (e : dVar i s = .ok (fo a) s) : dUn (pFld 0 "_held") (dVar i) s = .ok (lI a) s := by
  rw [r_un e] <;> rfl
theorem does_form_divisors : Does 1 D_form_divisors m_form_divisors := by
  intro ds ce hl
  unfold m_form_divisors
  split
  · rename_i d
    cases e1 : heldI d with
    | none => trivial
    | some a =>
      have ed := heldI_eq e1
      subst ed
      exact ⟨initS 1 [fo a] ce, r_ret_nl ((r_bi (r_a1 (held_run rfl))).trans rfl), lowL_ints _ _, Tail.id rfl⟩
  · trivial
def m_divisors_of : Fn := m_form_divisors
theorem does_divisors_of : Does 1 (D_divisors_of m_form_divisors) m_divisors_of := by
  intro ds ce hl
  unfold m_divisors_of m_form_divisors
  split
  · rename_i d
    cases e1 : heldI d with
    | none => trivial
    | some a =>
      have ed := heldI_eq e1
      subst ed
      refine ⟨initS 1 [fo a] ce, (r_seq ((r_sif_f (s1 := initS 1 [fo a] ce) rfl).trans rfl)).trans (r_ret_nl ?_), lowL_ints _ _, Tail.id rfl⟩
      show noEr (frK _ (match heldI (fo a) with
        | some a => .nl (a.map .int) ce
        | none => .no)) = _
      rw [heldI_fo] <;> rfl
  · trivial
def k_form_init : MkFn := fun ds ce => match ds with
  | [d] => match lstI d with
    | some a => if good a = true then .ok [("_held", lI a)] else .no
    | none => .no
  | _ => .no
def m_form_init : Fn := fun ds ce => match ds with
  | [.rf j, d] => match lstI d, ce[j]? with
    | some a, some (.ins 0 []) => if good a = true then .ok .non (ce.set j (.ins 0 [("_held", lI a)])) else .no
    | _, _ => .no
  | _ => .no
theorem k_form_cases (ds : List D) (ce : List Cell) : k_form_init ds ce = .no ∨ ∃ a, ds = [lI a] ∧ good a = true ∧ k_form_init ds ce = .ok [("_held", lI a)] := by
  unfold k_form_init
  split
  · rename_i d
    cases e1 : lstI d with
    | none => exact .inl rfl
    | some a =>
      have ed := lstI_eq e1
      subst ed
      by_cases hg : good a = true
      · refine .inr ⟨a, rfl, hg, ?_⟩
        show (if good a = true then FI.ok [("_held", lI a)] else .no) = _
        rw [if_pos hg]
      · refine .inl ?_
        show (if good a = true then FI.ok [("_held", lI a)] else .no) = _
        rw [if_neg hg]
  · exact .inl rfl
theorem k_form_ok : MkOk 0 m_form_init k_form_init := by
  intro ds ce
  rcases k_form_cases ds ce with h | ⟨a, rfl, hg, h⟩
  · rw [h]
    trivial
  · rw [h]
    refine ⟨?_, ?_⟩
    · show (match lstI (lI a), (ce ++ [Cell.ins 0 []])[ce.length]? with
        | some a, some (.ins 0 []) => if good a = true then FR.ok .non ((ce ++ [Cell.ins 0 []]).set ce.length (.ins 0 [("_held", lI a)])) else .no
        | _, _ => .no) = _
      rw [lstI_lI, cell_last]
      show (if good a = true then FR.ok .non ((ce ++ [Cell.ins 0 []]).set ce.length (.ins 0 [("_held", lI a)])) else .no) = _
      rw [if_pos hg, set_last]
    · show ((lowL ce.length (a.map D.int)) && true) = true
      rw [lowL_ints] <;> rfl
theorem does_form_init : Does 2 (D_form_init m_are_divisors) m_form_init := by
  intro ds ce hl
  unfold m_form_init
  split
  · rename_i j d
    cases e1 : lstI d with
    | none => trivial
    | some a =>
      have ed := lstI_eq e1
      subst ed
      split
      · rename_i a' x he ha hc
        cases ha
        by_cases hg : good a = true
        · rw [if_pos hg]
          refine .inr ⟨rfl, ⟨⟨(initS 2 [.rf j, lI a] ce).sl, ce.set j (.ins 0 [("_held", lI a)]), ce.length⟩, ?_, Tail.one (junk := []) (by rw [List.append_nil]) ?_⟩⟩
          · refine (r_seq ((r_sif_f (s1 := initS 2 [.rf j, lI a] ce) (r_bnot (b1' := true) (r_test (r_fz_ok ((r_call (r_a1 rfl) rfl).trans ?_))))).trans rfl)).trans ?_
            · show frK _ (match lstI (lI a) with
                | some ns => if good ns = true then .ok (.bl true) ce else .no
                | none => .no) = _
              rw [lstI_lI]
              show frK _ (if good a = true then .ok (.bl true) ce else .no) = _
              rw [if_pos hg] <;> rfl
            · show (match ce[j]? with
                | some (Cell.ins c fs) => if c = 0 ∧ fs.length < 900 then O.nx ⟨_, ce.set j (.ins c (putFD "_held" (lI a) fs)), _⟩ else .no
                | _ => .no) = _
              rw [hc] <;> rfl
          · show ((lowL ce.length (a.map D.int)) && true) = true
            rw [lowL_ints] <;> rfl
        · rw [if_neg hg]
          trivial
      · trivial
  · trivial
def m_form_with : Fn := fun ds ce => match ds with
  | [d] => match lstI d with
    | some a => .ok (fo a) ce
    | none => .no
  | _ => .no
theorem does_form_with : Does 2 (D_form_with k_form_init) m_form_with := by
  intro ds ce hl
  unfold m_form_with
  split
  · rename_i d
    cases e1 : lstI d with
    | none => trivial
    | some a =>
      have ed := lstI_eq e1
      subst ed
      have q1 : sSet 1 (dCe (dMake 0 2 k_form_init (aCons (dFz (dLst aNil)) aNil))) (initS 2 [lI a] ce) = .nx ⟨[some (lI a), some (.rf ce.length)], ce ++ [.ins 0 [("_held", lI [])]], ce.length⟩ :=
        r_set (r_ce_ni (r_make (r_a1 (r_fz_nl (r_lst rfl (by decide)))) rfl rfl))
      have q2 : sSetF 0 "_held" (dVar 1) (dFz (dBi (b1 listD) (aCons (dVar 0) aNil))) ⟨[some (lI a), some (.rf ce.length)], ce ++ [.ins 0 [("_held", lI [])]], ce.length⟩ = .nx ⟨[some (lI a), some (.rf ce.length)], ce ++ [.ins 0 [("_held", lI a)]], ce.length⟩ := by
        show (match (ce ++ [Cell.ins 0 [("_held", lI [])]])[ce.length]? with
          | some (Cell.ins c fs) => if c = 0 ∧ fs.length < 900 then O.nx ⟨_, (ce ++ [Cell.ins 0 [("_held", lI [])]]).set ce.length (.ins c (putFD "_held" (lI a) fs)), _⟩ else .no
          | _ => .no) = _
        rw [cell_last]
        show O.nx ⟨_, (ce ++ [Cell.ins 0 [("_held", lI [])]]).set ce.length (.ins 0 [("_held", lI a)]), _⟩ = _
        rw [set_last]
      have q3 : dShare 1 ⟨[some (lI a), some (.rf ce.length)], ce ++ [.ins 0 [("_held", lI a)]], ce.length⟩ = .ok (fo a) ⟨[some (lI a), some (fo a)], ce ++ [.gone], ce.length⟩ := by
        show (if ce.length ≤ ce.length then shareC 1 ce.length _ (ce ++ [Cell.ins 0 [("_held", lI a)]])[ce.length]? else .no) = _
        rw [if_pos (Nat.le_refl _), cell_last]
        show R.ok (fo a) ⟨_, (ce ++ [Cell.ins 0 [("_held", lI a)]]).set ce.length .gone, _⟩ = _
        rw [set_last] <;> rfl
      refine .inl ⟨_, (r_seq q1).trans ((r_seq q2).trans (r_ret q3)), ?_, Tail.same rfl⟩
      show ((lowL ce.length (a.map D.int)) && true) = true
      rw [lowL_ints] <;> rfl
  · trivial
def m_limited_form : Fn := fun ds ce => match ds with
  | [d] => match lstI d with
    | some a => if a.length ≤ 200 then .ok (fo a) ce else .no
    | none => .no
  | _ => .no
theorem low_fo (n : Nat) (a : List Int) : low n (fo a) = true := by
  show ((lowL n (a.map D.int)) && true) = true
  rw [lowL_ints] <;> rfl
theorem does_limited_form : Does 1 (D_limited_form m_form_with) m_limited_form := by
  intro ds ce hl
  unfold m_limited_form
  split
  · rename_i d
    cases e1 : lstI d with
    | none => trivial
    | some a =>
      have ed := lstI_eq e1
      subst ed
      by_cases hg : a.length ≤ 200
      · show DoesK ce _ (if a.length ≤ 200 then .ok (fo a) ce else .no)
        rw [if_pos hg]
        refine .inl ⟨initS 1 [lI a] ce, (r_seq ((r_sif_f (s1 := initS 1 [lI a] ce) ?_).trans rfl)).trans (r_ret ((r_call (r_a1 rfl) rfl).trans ?_)), low_fo _ _, Tail.id rfl⟩
        · show RB.ok (decide ((200 : Int) < ((a.map D.int).length : Nat))) _ = _
          rw [List.length_map, decide_eq_false (by omega)]
        · show frK _ (match lstI (lI a) with
            | some a => .ok (fo a) ce
            | none => .no) = _
          rw [lstI_lI] <;> rfl
      · show DoesK ce _ (if a.length ≤ 200 then .ok (fo a) ce else .no)
        rw [if_neg hg]
        trivial
  · trivial
end K06
set_option maxRecDepth 100000
set_option maxHeartbeats 4000000
namespace K06
open PySem PySem.Spec PyProof.Rows L2 Dv
theorem toPs_ints : ∀ a : List Int, toPs (a.map D.int) = some (a.map PyData.int)
  | [] => rfl
  | x :: r => by
    show (match toP (.int x), toPs (r.map D.int) with
      | some p, some ps => some (p :: ps)
      | _, _ => none) = _
    rw [toPs_ints r] <;> rfl
theorem eqv_ints : ∀ a b : List Int, PyData.eqvAll (a.map .int) (b.map .int) = decide (a = b)
  | [], [] => by simp [PyData.eqvAll]
  | x :: a, [] => by simp [PyData.eqvAll]
  | [], y :: b => by simp [PyData.eqvAll]
  | x :: a, y :: b => by
    rw [List.map_cons, List.map_cons]
    unfold PyData.eqvAll
    rw [eqv_ints a b]
    unfold PyData.eqv
    by_cases h1 : x = y <;> by_cases h2 : a = b <;> simp [h1, h2]
theorem lay_ints : ∀ a : List Int, PyData.canLayAll0 (a.map .int) = true ∧ PyData.depthAll (a.map .int) ≤ 1
  | [] => ⟨by simp [PyData.canLayAll0], by simp [PyData.depthAll]⟩
  | x :: r => by
    obtain ⟨h1, h2⟩ := lay_ints r
    rw [List.map_cons]
    unfold PyData.canLayAll0 PyData.depthAll
    rw [h1]
    refine ⟨by simp [PyData.canLay0], ?_⟩
    simp only [PyData.depth]
    omega
theorem shaped_ints (a : List Int) : SeqAt.shaped (.list (a.map .int)) = true := by
  obtain ⟨h1, h2⟩ := lay_ints a
  unfold SeqAt.shaped
  rw [Bool.and_eq_true]
  refine ⟨?_, decide_eq_true ?_⟩
  · unfold PyData.canLay0
    exact h1
  · unfold PyData.depth
    omega
theorem eq_ints (ce : List Cell) (a b : List Int) : pEq ce (lI a) (lI b) = .v (.bl (decide (a = b))) := by
  unfold pEq
  have e : ∀ c, toPc ce (lI c) = some (.list (c.map .int)) := fun c => by
    show (toPs (c.map D.int)).map PyData.list = _
    rw [toPs_ints] <;> rfl
  rw [e, e]
  show (if SeqAt.shaped (.list (a.map .int)) = true ∧ SeqAt.shaped (.list (b.map .int)) = true then Po.v (.bl (PyData.eqv (.list (a.map .int)) (.list (b.map .int)))) else .no) = _
  rw [if_pos ⟨shaped_ints a, shaped_ints b⟩]
  unfold PyData.eqv
  rw [eqv_ints]

theorem eq_int (ce : List Cell) (i j : Int) : pEq ce (.int i) (.int j) = .v (.bl (decide (i = j))) := rfl
theorem ne_int (ce : List Cell) (i j : Int) : pNe ce (.int i) (.int j) = .v (.bl (!(decide (i = j)))) := rfl
theorem mod_int (ce : List Cell) {i j : Int} (h : 0 < j) : pMod ce (.int i) (.int j) = .v (.int (i % j)) := by
  show (if 0 < j then Po.v (.int (i % j)) else .no) = _
  rw [if_pos h]
theorem div_int (ce : List Cell) {i j : Int} (h : 0 < j) (hb : bits j < 9000) : pDiv ce (.int i) (.int j) = .v (.int (i / j)) := by
  show (if 0 < j ∧ bits j < 9000 then Po.v (.int (i / j)) else .no) = _
  rw [if_pos ⟨h, hb⟩]
theorem mul_int (ce : List Cell) {i j : Int} (h : bits i + bits j < 900000) : pMul ce (.int i) (.int j) = .v (.int (i * j)) := by
  show (if bits i + bits j < 900000 then Po.v (.int (i * j)) else .no) = _
  rw [if_pos h]
section
variable {f g : DE} {s s1 s2 : S} {i j : Int}
theorem i_add (h1 : f s = .ok (.int i) s1) (h2 : g s1 = .ok (.int j) s2) : dOp pAdd f g s = .ok (.int (i + j)) s2 := (r_op h1 h2).trans rfl
theorem i_sub (h1 : f s = .ok (.int i) s1) (h2 : g s1 = .ok (.int j) s2) : dOp pSub f g s = .ok (.int (i - j)) s2 := (r_op h1 h2).trans rfl
theorem i_mul (h1 : f s = .ok (.int i) s1) (h2 : g s1 = .ok (.int j) s2) (h : bits i + bits j < 900000) : dOp pMul f g s = .ok (.int (i * j)) s2 := by
  rw [r_op h1 h2, mul_int _ h] <;> rfl
theorem i_div (h1 : f s = .ok (.int i) s1) (h2 : g s1 = .ok (.int j) s2) (h : 0 < j) (hb : bits j < 9000) : dOp pDiv f g s = .ok (.int (i / j)) s2 := by
  rw [r_op h1 h2, div_int _ h hb] <;> rfl
theorem i_mod (h1 : f s = .ok (.int i) s1) (h2 : g s1 = .ok (.int j) s2) (h : 0 < j) : dOp pMod f g s = .ok (.int (i % j)) s2 := by
  rw [r_op h1 h2, mod_int _ h] <;> rfl
theorem i_pow (h1 : f s = .ok (.int i) s1) (h2 : g s1 = .ok (.int j) s2) (h : 0 ≤ j ∧ ((bits i : Int) + 1) * j ≤ 134217728) : dOp pPow f g s = .ok (.int (i ^ j.toNat)) s2 := by
  rw [r_op h1 h2]
  show poK s2 (if 0 ≤ j ∧ ((bits i : Int) + 1) * j ≤ 134217728 then Po.v (.int (i ^ j.toNat)) else .no) = _
  rw [if_pos h] <;> rfl
theorem i_lt (h1 : f s = .ok (.int i) s1) (h2 : g s1 = .ok (.int j) s2) : dOp pLt f g s = .ok (.bl (decide (i < j))) s2 := (r_op h1 h2).trans rfl
theorem i_le (h1 : f s = .ok (.int i) s1) (h2 : g s1 = .ok (.int j) s2) : dOp pLe f g s = .ok (.bl (decide (i ≤ j))) s2 := (r_op h1 h2).trans rfl
theorem i_gt (h1 : f s = .ok (.int i) s1) (h2 : g s1 = .ok (.int j) s2) : dOp pGt f g s = .ok (.bl (decide (j < i))) s2 := (r_op h1 h2).trans rfl
theorem i_ge (h1 : f s = .ok (.int i) s1) (h2 : g s1 = .ok (.int j) s2) : dOp pGe f g s = .ok (.bl (decide (j ≤ i))) s2 := (r_op h1 h2).trans rfl
theorem i_eq (h1 : f s = .ok (.int i) s1) (h2 : g s1 = .ok (.int j) s2) : dOp pEq f g s = .ok (.bl (decide (i = j))) s2 := (r_op h1 h2).trans rfl
end
theorem lowL_nil (n : Nat) : lowL n [] = true := rfl
theorem chk_run {i : Int} (ce : List Cell) (h : 1 ≤ i) : m_check_number [.int i] ce = .ok .non ce := by
  show (if 1 ≤ i then FR.ok .non ce else .no) = _
  rw [if_pos h]
/-! a form called -/
def par (a : List Int) (i : Int) : Bool := decide (((a.filter fun d => decide (i % d = 0)).length : Int) % 2 = 1)
def posL (a : List Int) : Bool := a.all fun d => decide (0 < d)
def m_divided_oddly : Fn := fun ds ce => match ds with
  | [.int i, d] => match lstI d with
    | some a => if posL a = true ∧ a.length ≤ 100000 then .ok (.bl (par a i)) ce else .no
    | none => .no
  | _ => .no
theorem does_divided_oddly : Does 3 D_divided_oddly m_divided_oddly := by
  intro ds ce hl
  unfold m_divided_oddly
  split
  · rename_i i d
    cases e1 : lstI d with
    | none => trivial
    | some a =>
      have ed := lstI_eq e1
      subst ed
      by_cases hg : posL a = true ∧ a.length ≤ 100000
      · show DoesK ce _ (if posL a = true ∧ a.length ≤ 100000 then .ok (.bl (par a i)) ce else .no)
        rw [if_pos hg]
        obtain ⟨h2, h3⟩ := hg
        refine .inl ⟨initS 3 [.int i, lI a] ce, r_ret ?_, rfl, Tail.id rfl⟩
        · have ec : dCompV 1 (tgN 2) [2] (bTest (dOp pEq (dOp pMod (dVar 0) (dVar 2)) (dC (.int 0)))) (dVar 2) (initS 3 [.int i, lI a] ce) = .nl ((a.filter fun d => decide (i % d = 0)).map .int) (initS 3 [.int i, lI a] ce) := by
            show compL _ _ _ _ _ (a.map D.int) [] _ = _
            rw [compL_pu (fun d => match d with
              | .int d => decide (i % d = 0)
              | _ => false) id rfl (fun d hd => ?_) (by rw [List.length_map]; exact h3)]
            · rw [List.map_id, List.filter_map] <;> rfl
            · obtain ⟨j, hj, rfl⟩ := List.mem_map.mp hd
              have hp := of_decide_eq_true (List.all_eq_true.mp h2 j hj)
              refine ⟨_, rfl, rfl, r_test ((r_op ((r_op rfl rfl).trans (by rw [mod_int _ hp] <;> rfl)) rfl).trans rfl), fun _ => rfl⟩
          have el : dBi (b1 lenD) (aCons (dFz (dCompV 1 (tgN 2) [2] (bTest (dOp pEq (dOp pMod (dVar 0) (dVar 2)) (dC (.int 0)))) (dVar 2))) aNil) (initS 3 [.int i, lI a] ce) = .ok (.int ((a.filter fun d => decide (i % d = 0)).length : Nat)) (initS 3 [.int i, lI a] ce) := by
            rw [r_bi (r_a1 (r_fz_nl ec))]
            show R.ok (.int ((((a.filter fun d => decide (i % d = 0)).map D.int).length : Nat) : Int)) _ = _
            rw [List.length_map]
          exact (r_op ((r_op el rfl).trans (by rw [mod_int _ (by decide)] <;> rfl)) rfl).trans rfl
      · show DoesK ce _ (if posL a = true ∧ a.length ≤ 100000 then .ok (.bl (par a i)) ce else .no)
        rw [if_neg hg]
        trivial
  · trivial
def m_form_call : Fn := fun ds ce => match ds with
  | [d, .int i] => match heldI d with
    | some a => if 1 ≤ i ∧ posL a = true ∧ a.length ≤ 100000 then .ok (.bl (par a i)) ce else .no
    | none => .no
  | _ => .no
theorem does_form_call : Does 2 (D_form_call m_check_number m_divided_oddly) m_form_call := by
  intro ds ce hl
  unfold m_form_call
  split
  · rename_i d i
    cases e1 : heldI d with
    | none => trivial
    | some a =>
      have ed := heldI_eq e1
      subst ed
      by_cases hg : 1 ≤ i ∧ posL a = true ∧ a.length ≤ 100000
      · show DoesK ce _ (if 1 ≤ i ∧ posL a = true ∧ a.length ≤ 100000 then .ok (.bl (par a i)) ce else .no)
        rw [if_pos hg]
        obtain ⟨h1, h2, h3⟩ := hg
        refine .inl ⟨initS 2 [fo a, .int i] ce, (r_seq (r_drop (r_cok (r_a1 rfl) (chk_run ce h1) rfl))).trans (r_ret (r_cok (r_a2 rfl (held_run rfl)) ?_ rfl)), rfl, Tail.id rfl⟩
        show (match lstI (lI a) with
          | some a => if posL a = true ∧ a.length ≤ 100000 then FR.ok (.bl (par a i)) ce else .no
          | none => .no) = _
        rw [lstI_lI]
        show (if posL a = true ∧ a.length ≤ 100000 then FR.ok (.bl (par a i)) ce else .no) = _
        rw [if_pos ⟨h2, h3⟩] <;> rfl
      · show DoesK ce _ (if 1 ≤ i ∧ posL a = true ∧ a.length ≤ 100000 then .ok (.bl (par a i)) ce else .no)
        rw [if_neg hg]
        trivial
  · trivial
def m_form_len : Fn := fun ds ce => match ds with
  | [d] => match heldI d with
    | some a => .ok (.int (a.length : Nat)) ce
    | none => .no
  | _ => .no
theorem does_form_len : Does 1 D_form_len m_form_len := by
  intro ds ce hl
  unfold m_form_len
  split
  · rename_i d
    cases e1 : heldI d with
    | none => trivial
    | some a =>
      have ed := heldI_eq e1
      subst ed
      refine .inl ⟨initS 1 [fo a] ce, r_ret ((r_bi (r_a1 (held_run rfl))).trans ?_), rfl, Tail.id rfl⟩
      show R.ok (.int (((a.map D.int).length : Nat) : Int)) _ = _
      rw [List.length_map]
  · trivial
def m_form_eq : Fn := fun ds ce => match ds with
  | [d1, d2] => match heldI d1, heldI d2 with
    | some a, some b => .ok (.bl (decide (a = b))) ce
    | _, _ => .no
  | _ => .no
theorem does_form_eq : Does 2 D_form_eq m_form_eq := by
  intro ds ce hl
  unfold m_form_eq
  split
  · rename_i d1 d2
    cases e1 : heldI d1 with
    | none => trivial
    | some a =>
      cases e2 : heldI d2 with
      | none => trivial
      | some b =>
        have ed1 := heldI_eq e1
        have ed2 := heldI_eq e2
        subst ed1
        subst ed2
        refine .inl ⟨initS 2 [fo a, fo b] ce, r_ret ((r_and_t (s1 := initS 2 [fo a, fo b] ce) rfl).trans ((r_op (held_run rfl) (held_run rfl)).trans ?_)), rfl, Tail.id rfl⟩
        rw [eq_ints] <;> rfl
  · trivial

/-! the operators -/
theorem alone_run (a b : List Int) (ce : List Cell) (h : a.length + b.length < 100000) : m_alone [lI a, lI b] ce = .nl ((oddI (a ++ b)).map .int) ce := by
  show (match lstI (lI a), lstI (lI b) with
    | some a, some b => if a.length + b.length < 100000 then FR.nl ((oddI (a ++ b)).map .int) ce else .no
    | _, _ => .no) = _
  rw [lstI_lI, lstI_lI]
  show (if a.length + b.length < 100000 then FR.nl ((oddI (a ++ b)).map .int) ce else .no) = _
  rw [if_pos h]
theorem common_run (a b : List Int) (ce : List Cell) (h : slim a = true ∧ slim b = true ∧ a.length * b.length < 100000) : m_common [lI a, lI b] ce = .nl ((oddI (lcms a b)).map .int) ce := by
  show (match lstI (lI a), lstI (lI b) with
    | some a, some b => if slim a = true ∧ slim b = true ∧ a.length * b.length < 100000 then FR.nl ((oddI (lcms a b)).map .int) ce else .no
    | _, _ => .no) = _
  rw [lstI_lI, lstI_lI]
  show (if slim a = true ∧ slim b = true ∧ a.length * b.length < 100000 then FR.nl ((oddI (lcms a b)).map .int) ce else .no) = _
  rw [if_pos h]
theorem divs_run (a : List Int) (ce : List Cell) : m_divisors_of [fo a] ce = .nl (a.map .int) ce := by
  show (match heldI (fo a) with
    | some a => FR.nl (a.map .int) ce
    | none => .no) = _
  rw [heldI_fo]
theorem lim_run (a : List Int) (ce : List Cell) (h : a.length ≤ 200) : m_limited_form [lI a] ce = .ok (fo a) ce := by
  show (match lstI (lI a) with
    | some a => if a.length ≤ 200 then FR.ok (fo a) ce else .no
    | none => .no) = _
  rw [lstI_lI]
  show (if a.length ≤ 200 then FR.ok (fo a) ce else .no) = _
  rw [if_pos h]
theorem with_run (a : List Int) (ce : List Cell) : m_form_with [lI a] ce = .ok (fo a) ce := by
  show (match lstI (lI a) with
    | some a => FR.ok (fo a) ce
    | none => .no) = _
  rw [lstI_lI]
theorem odd_run (a : List Int) (ce : List Cell) (h : a.length < 100000) : m_odd_times [lI a] ce = .nl ((oddI a).map .int) ce := by
  show (match lstI (lI a) with
    | some ns => if ns.length < 100000 then FR.nl ((oddI ns).map .int) ce else .no
    | none => .no) = _
  rw [lstI_lI]
  show (if a.length < 100000 then FR.nl ((oddI a).map .int) ce else .no) = _
  rw [if_pos h]
/-- two forms at most -/
def two (k : List Int → List Int → Option (List Int)) : Fn := fun ds ce => match ds with
  | [d1, d2] => match heldI d1, heldI d2 with
    | some a, some b => match k a b with
      | some c => .ok (fo c) ce
      | none => .no
    | _, _ => .no
  | _ => .no
theorem does_two {N : Nat} {D0 : DS} {k : List Int → List Int → Option (List Int)} (h : ∀ a b c ce, k a b = some c → ∃ s, D0 (initS N [fo a, fo b] ce) = .rt (fo c) s ∧ s.ce = ce) : Does N D0 (two k) := by
  intro ds ce hl
  unfold two
  split
  · rename_i d1 d2
    cases e1 : heldI d1 with
    | none => trivial
    | some a =>
      cases e2 : heldI d2 with
      | none => trivial
      | some b =>
        have ed1 := heldI_eq e1
        have ed2 := heldI_eq e2
        subst ed1
        subst ed2
        show DoesK ce _ (match k a b with
          | some c => .ok (fo c) ce
          | none => .no)
        cases e3 : k a b with
        | none => trivial
        | some c =>
          obtain ⟨s, h1, h2⟩ := h a b c ce e3
          exact .inl ⟨s, h1, low_fo _ _, Tail.id h2⟩
  · trivial
def capL (c : Bool) (a : List Int) : Option (List Int) := if c = true ∧ a.length ≤ 200 then some a else none
theorem capL_eq {c : Bool} {a b : List Int} (h : capL c a = some b) : b = a ∧ c = true ∧ a.length ≤ 200 := by
  unfold capL at h
  split at h
  · cases h
    exact ⟨rfl, by assumption⟩
  · cases h
def xorL (a b : List Int) : Option (List Int) := capL (decide (a.length + b.length < 100000)) (oddI (a ++ b))
def andL (a b : List Int) : Option (List Int) := capL (slim a && slim b && decide (a.length * b.length < 100000)) (oddI (lcms a b))
def orL (a b : List Int) : Option (List Int) := capL (slim a && slim b && decide (a.length * b.length < 100000) && decide (a.length + b.length < 100000) && decide ((oddI (a ++ b)).length + (oddI (lcms a b)).length < 100000)) (oddI (oddI (a ++ b) ++ oddI (lcms a b)))
theorem does_form_xor : Does 2 (D_form_xor m_divisors_of m_alone m_limited_form) (two xorL) := does_two fun a b c ce h => by
  obtain ⟨rfl, h1, h2⟩ := capL_eq h
  have h1 := of_decide_eq_true h1
  exact ⟨initS 2 [fo a, fo b] ce, r_ret (r_cok (r_a1 (r_fz_nl (r_cnl (r_a2 (held_run rfl) (r_fz_nl (r_cnl (r_a1 rfl) (divs_run b ce) rfl))) (alone_run a b ce h1) rfl))) (lim_run _ ce h2) rfl), rfl⟩
theorem does_form_and : Does 2 (D_form_and m_divisors_of m_common m_limited_form) (two andL) := does_two fun a b c ce h => by
  obtain ⟨rfl, h1, h2⟩ := capL_eq h
  rw [Bool.and_eq_true, Bool.and_eq_true, decide_eq_true_iff] at h1
  exact ⟨initS 2 [fo a, fo b] ce, r_ret (r_cok (r_a1 (r_fz_nl (r_cnl (r_a2 (held_run rfl) (r_fz_nl (r_cnl (r_a1 rfl) (divs_run b ce) rfl))) (common_run a b ce ⟨h1.1.1, h1.1.2, h1.2⟩) rfl))) (lim_run _ ce h2) rfl), rfl⟩
theorem does_form_or : Does 3 (D_form_or m_divisors_of m_common m_alone m_limited_form) (two orL) := does_two fun a b c ce h => by
  obtain ⟨rfl, h1, h2⟩ := capL_eq h
  rw [Bool.and_eq_true, Bool.and_eq_true, Bool.and_eq_true, Bool.and_eq_true, decide_eq_true_iff, decide_eq_true_iff, decide_eq_true_iff] at h1
  obtain ⟨⟨⟨⟨k1, k2⟩, k3⟩, k4⟩, k5⟩ := h1
  have q1 : sSet 2 (dFz (dCall 1 m_divisors_of (aCons (dVar 1) aNil))) (initS 3 [fo a, fo b] ce) = .nx ⟨[some (fo a), some (fo b), some (lI b)], ce, ce.length⟩ := r_set (r_fz_nl (r_cnl (r_a1 rfl) (divs_run b ce) rfl))
  exact ⟨⟨[some (fo a), some (fo b), some (lI b)], ce, ce.length⟩, (r_seq q1).trans (r_ret (r_cok (r_a1 (r_fz_nl (r_cnl (r_a2 (r_fz_nl (r_cnl (r_a2 (held_run rfl) rfl) (alone_run a b ce k4) rfl)) (r_fz_nl (r_cnl (r_a2 (held_run rfl) rfl) (common_run a b ce ⟨k1, k2, k3⟩) rfl))) (alone_run _ _ ce k5) rfl))) (lim_run _ ce h2) rfl)), rfl⟩
/-- a form alone -/
def one (k : List Int → Option (List Int)) : Fn := fun ds ce => match ds with
  | [d] => match heldI d with
    | some a => match k a with
      | some c => .ok (fo c) ce
      | none => .no
    | none => .no
  | _ => .no
theorem does_one {N : Nat} {D0 : DS} {k : List Int → Option (List Int)} (h : ∀ a c ce, k a = some c → ∃ s, D0 (initS N [fo a] ce) = .rt (fo c) s ∧ s.ce = ce) : Does N D0 (one k) := by
  intro ds ce hl
  unfold one
  split
  · rename_i d
    cases e1 : heldI d with
    | none => trivial
    | some a =>
      have ed := heldI_eq e1
      subst ed
      show DoesK ce _ (match k a with
        | some c => .ok (fo c) ce
        | none => .no)
      cases e3 : k a with
      | none => trivial
      | some c =>
        obtain ⟨s, h1, h2⟩ := h a c ce e3
        exact .inl ⟨s, h1, low_fo _ _, Tail.id h2⟩
  · trivial
def notL (a : List Int) : Option (List Int) := capL (decide (a.length + 1 < 100000)) (oddI (a ++ [1]))
theorem does_form_invert : Does 1 (D_form_invert m_alone m_limited_form) (one notL) := does_one fun a c ce h => by
  obtain ⟨rfl, h1, h2⟩ := capL_eq h
  have h1 := of_decide_eq_true h1
  exact ⟨initS 1 [fo a] ce, r_ret (r_cok (r_a1 (r_fz_nl (r_cnl (r_a2 (held_run rfl) (r_fz_nl (r_lst (r_a1 rfl) (by decide)))) (alone_run a [1] ce h1) rfl))) (lim_run _ ce h2) rfl), rfl⟩

/-! scaled, spread -/
def gcdI (i j : Int) : Int := ((Nat.gcd i.natAbs j.natAbs : Nat) : Int)
theorem gcdI_pos {i j : Int} (h : 1 ≤ j) : 0 < gcdI i j := by
  have : 0 < Nat.gcd i.natAbs j.natAbs := Nat.gcd_pos_of_pos_right _ (by omega)
  unfold gcdI
  omega
theorem log2_mono {m n : Nat} (h : m ≤ n) : m.log2 ≤ n.log2 := by
  by_cases h0 : m = 0
  · subst h0
    rw [Nat.log2_zero]
    exact Nat.zero_le _
  · have hn : n ≠ 0 := by omega
    exact (Nat.le_log2 hn).mpr (Nat.le_trans (Nat.log2_self_le h0) h)
theorem gcdI_bits {i j : Int} (h : 1 ≤ j) : bits (gcdI i j) ≤ bits j := by
  unfold bits gcdI
  rw [Int.natAbs_natCast]
  exact log2_mono (Nat.le_of_dvd (by omega) (Nat.gcd_dvd_right _ _))
def m_form_scaled : Fn := fun ds ce => match ds with
  | [d, .int n] => match heldI d with
    | some a => if 1 ≤ n ∧ bits n < 9000 ∧ a.length < 100000 then .ok (fo (oddI (a.map fun d => d / gcdI d n))) ce else .no
    | none => .no
  | _ => .no
theorem does_form_scaled : Does 3 (D_form_scaled m_check_number m_odd_times m_form_with) m_form_scaled := by
  intro ds ce hl
  unfold m_form_scaled
  split
  · rename_i d n
    cases e1 : heldI d with
    | none => trivial
    | some a =>
      have ed := heldI_eq e1
      subst ed
      by_cases hg : 1 ≤ n ∧ bits n < 9000 ∧ a.length < 100000
      · show DoesK ce _ (if 1 ≤ n ∧ bits n < 9000 ∧ a.length < 100000 then .ok (fo (oddI (a.map fun d => d / gcdI d n))) ce else .no)
        rw [if_pos hg]
        obtain ⟨h1, h2, h3⟩ := hg
        have ec : dComp (iL (dUn (pFld 0 "_held") (dVar 0))) (tgN 2) [2] bYes (dOp pDiv (dVar 2) (dBi (b2 gcdD) (aCons (dVar 2) (aCons (dVar 1) aNil)))) (initS 3 [fo a, .int n] ce) = .nl ((a.map fun d => d / gcdI d n).map .int) (initS 3 [fo a, .int n] ce) := by
          rw [r_comp (r_iL (held_run rfl))]
          rw [compL_all (fun d => match d with
            | .int d => .int (d / gcdI d n)
            | _ => .non) rfl (fun d hd => ?_) (by rw [List.length_map]; omega)]
          · rw [List.map_map, List.map_map] <;> rfl
          · obtain ⟨j, hj, rfl⟩ := List.mem_map.mp hd
            exact ⟨_, rfl, rfl, (r_op rfl ((r_bi (r_a2 rfl rfl)).trans rfl)).trans (by rw [show (D.int ((Nat.gcd j.natAbs n.natAbs : Nat) : Int)) = D.int (gcdI j n) from rfl, div_int _ (gcdI_pos h1) (Nat.lt_of_le_of_lt (gcdI_bits h1) h2)] <;> rfl)⟩
        exact .inl ⟨initS 3 [fo a, .int n] ce, (r_seq (r_drop (r_cok (r_a1 rfl) (chk_run ce h1) rfl))).trans (r_ret (r_cok (r_a1 (r_fz_nl (r_cnl (r_a1 (r_fz_nl ec)) (odd_run _ ce (by rw [List.length_map]; exact h3)) rfl))) (with_run _ ce) rfl)), low_fo _ _, Tail.id rfl⟩
      · show DoesK ce _ (if 1 ≤ n ∧ bits n < 9000 ∧ a.length < 100000 then .ok (fo (oddI (a.map fun d => d / gcdI d n))) ce else .no)
        rw [if_neg hg]
        trivial
  · trivial
def wideL (a : List Int) (n : Int) : Bool := a.all fun d => decide (bits d + bits n < 900000)
def m_form_spread : Fn := fun ds ce => match ds with
  | [d, .int n] => match heldI d with
    | some a => if 1 ≤ n ∧ wideL a n = true ∧ a.length < 100000 then .ok (fo (a.map fun d => d * n)) ce else .no
    | none => .no
  | _ => .no
theorem does_form_spread : Does 3 (D_form_spread m_check_number m_form_with) m_form_spread := by
  intro ds ce hl
  unfold m_form_spread
  split
  · rename_i d n
    cases e1 : heldI d with
    | none => trivial
    | some a =>
      have ed := heldI_eq e1
      subst ed
      by_cases hg : 1 ≤ n ∧ wideL a n = true ∧ a.length < 100000
      · show DoesK ce _ (if 1 ≤ n ∧ wideL a n = true ∧ a.length < 100000 then .ok (fo (a.map fun d => d * n)) ce else .no)
        rw [if_pos hg]
        obtain ⟨h1, h2, h3⟩ := hg
        have ec : dComp (iL (dUn (pFld 0 "_held") (dVar 0))) (tgN 2) [2] bYes (dOp pMul (dVar 2) (dVar 1)) (initS 3 [fo a, .int n] ce) = .nl ((a.map fun d => d * n).map .int) (initS 3 [fo a, .int n] ce) := by
          rw [r_comp (r_iL (held_run rfl))]
          rw [compL_all (fun d => match d with
            | .int d => .int (d * n)
            | _ => .non) rfl (fun d hd => ?_) (by rw [List.length_map]; omega)]
          · rw [List.map_map, List.map_map] <;> rfl
          · obtain ⟨j, hj, rfl⟩ := List.mem_map.mp hd
            have hb := of_decide_eq_true (List.all_eq_true.mp h2 j hj)
            exact ⟨_, rfl, rfl, (r_op rfl rfl).trans (by rw [mul_int _ hb] <;> rfl)⟩
        exact .inl ⟨initS 3 [fo a, .int n] ce, (r_seq (r_drop (r_cok (r_a1 rfl) (chk_run ce h1) rfl))).trans (r_ret (r_cok (r_a1 (r_fz_nl ec)) (with_run _ ce) rfl)), low_fo _ _, Tail.id rfl⟩
      · show DoesK ce _ (if 1 ≤ n ∧ wideL a n = true ∧ a.length < 100000 then .ok (fo (a.map fun d => d * n)) ce else .no)
        rw [if_neg hg]
        trivial
  · trivial
end K06
set_option maxRecDepth 100000
set_option maxHeartbeats 4000000
/-! forms as sets of numbers -/
namespace K06
open PySem PySem.Spec PyProof.Rows L2 Dv
/-- whether an odd number of a divides n -/
def pr : List Int → Int → Bool
  | [], _ => false
  | d :: r, n => xor (decide (n % d = 0)) (pr r n)
theorem par_pr (a : List Int) (n : Int) : par a n = pr a n := by
  unfold par
  induction a with
  | nil => rfl
  | cons d r ih =>
    unfold pr
    rw [← ih, List.filter_cons]
    by_cases h : n % d = 0
    · rw [if_pos (decide_eq_true h), decide_eq_true h, List.length_cons]
      by_cases h2 : ((r.filter fun d => decide (n % d = 0)).length : Int) % 2 = 1
      · rw [decide_eq_true h2, decide_eq_false (by omega)] <;> rfl
      · rw [decide_eq_false h2, decide_eq_true (by omega)] <;> rfl
    · rw [if_neg (by rw [decide_eq_false h]; decide), decide_eq_false h, Bool.false_xor]
theorem pr_app (a b : List Int) (n : Int) : pr (a ++ b) n = xor (pr a n) (pr b n) := by
  induction a with
  | nil =>
    show pr b n = xor false (pr b n)
    rw [Bool.false_xor]
  | cons d r ih =>
    show xor (decide (n % d = 0)) (pr (r ++ b) n) = xor (xor (decide (n % d = 0)) (pr r n)) (pr b n)
    rw [ih, Bool.xor_assoc]
theorem pr_perm {a b : List Int} (h : a.Perm b) (n : Int) : pr a n = pr b n := by
  induction h with
  | nil => rfl
  | cons x _ ih =>
    show xor _ _ = xor _ _
    rw [ih]
  | swap x y l =>
    show xor (decide (n % y = 0)) (xor (decide (n % x = 0)) (pr l n)) = xor (decide (n % x = 0)) (xor (decide (n % y = 0)) (pr l n))
    rw [← Bool.xor_assoc, Bool.xor_comm (decide (n % y = 0)), Bool.xor_assoc]
  | trans _ _ h1 h2 => exact h1.trans h2
def trB (kv : List (Int × Bool)) : List Int := (kv.filter (·.2)).map (·.1)
theorem pr_tog (k n : Int) : ∀ kv : List (Int × Bool), pr (trB (togB kv k)) n = xor (pr (trB kv) n) (decide (n % k = 0))
  | [] => by
    show xor (decide (n % k = 0)) false = xor false (decide (n % k = 0))
    rw [Bool.xor_comm]
  | (j, b) :: r => by
    have ih := pr_tog k n r
    unfold togB
    by_cases h : j = k
    · rw [if_pos h]
      subst h
      cases b with
      | true =>
        show pr (trB r) n = xor (xor (decide (n % j = 0)) (pr (trB r) n)) (decide (n % j = 0))
        cases decide (n % j = 0) <;> cases pr (trB r) n <;> rfl
      | false =>
        show xor (decide (n % j = 0)) (pr (trB r) n) = xor (pr (trB r) n) (decide (n % j = 0))
        rw [Bool.xor_comm]
    · rw [if_neg h]
      cases b with
      | true =>
        show xor (decide (n % j = 0)) (pr (trB (togB r k)) n) = xor (xor (decide (n % j = 0)) (pr (trB r) n)) (decide (n % k = 0))
        rw [ih, Bool.xor_assoc]
      | false => exact ih
theorem pr_fold (n : Int) : ∀ (ns : List Int) (kv : List (Int × Bool)), pr (trB (ns.foldl togB kv)) n = xor (pr (trB kv) n) (pr ns n)
  | [], kv => by
    show pr (trB kv) n = xor (pr (trB kv) n) false
    rw [Bool.xor_false]
  | k :: r, kv => by
    rw [List.foldl_cons, pr_fold n r, pr_tog]
    show _ = xor _ (xor (decide (n % k = 0)) (pr r n))
    rw [Bool.xor_assoc]
theorem pr_odd (ns : List Int) (n : Int) : pr (oddI ns) n = pr ns n := by
  unfold oddI
  rw [pr_perm (isortI_perm _)]
  have := pr_fold n ns []
  unfold trB at this
  show pr (((ns.foldl togB []).filter (·.2)).map (·.1)) n = _
  rw [this]
  show xor false _ = _
  rw [Bool.false_xor]
theorem odd_asc (ns : List Int) : (oddI ns).Pairwise (· < ·) := by
  have h1 := (odB_nodup_len ns ns.length).1
  rw [List.take_length] at h1
  have h2 : (((odB ns).filter (·.2)).map (·.1)).Nodup := (List.filter_sublist.map _).nodup h1
  have h3 : (oddI ns).Nodup := (isortI_perm _).nodup_iff.mpr h2
  have h4 := isortI_sorted (((odB ns).filter (·.2)).map (·.1))
  have h5 : (oddI ns).Pairwise (fun a b => a ≤ b ∧ a ≠ b) := List.Pairwise.and h4 h3
  exact h5.imp fun ⟨x, y⟩ => by omega
theorem tog_mem {k x : Int} : ∀ {kv : List (Int × Bool)}, x ∈ (togB kv k).map (·.1) → x = k ∨ x ∈ kv.map (·.1) := fun {kv} h => by
  rw [tog_keys] at h
  split at h
  · exact .inr h
  · rcases List.mem_append.mp h with z | z
    · exact .inr z
    · exact .inl (by simpa using z)
theorem fold_mem {x : Int} : ∀ (ns : List Int) (kv : List (Int × Bool)), x ∈ (ns.foldl togB kv).map (·.1) → x ∈ ns ∨ x ∈ kv.map (·.1)
  | [], _, h => .inr h
  | k :: r, kv, h => by
    rcases fold_mem r _ h with z | z
    · exact .inl (List.mem_cons_of_mem _ z)
    · rcases tog_mem z with y | y
      · exact .inl (by rw [y]; exact List.mem_cons_self)
      · exact .inr y
theorem odd_sub {ns : List Int} {x : Int} (h : x ∈ oddI ns) : x ∈ ns := by
  have h1 := (isortI_perm _).mem_iff.mp h
  have h2 : x ∈ (odB ns).map (·.1) := (List.filter_sublist.map _).mem h1
  rcases fold_mem ns [] h2 with z | z
  · exact z
  · cases z
/-- positive, ascending -/
structure Fm (a : List Int) : Prop where
  pos : ∀ x ∈ a, 0 < x
  asc : a.Pairwise (· < ·)
theorem Fm.tail {x : Int} {a : List Int} (h : Fm (x :: a)) : Fm a := ⟨fun y hy => h.pos y (List.mem_cons_of_mem _ hy), (List.pairwise_cons.mp h.asc).2⟩
theorem fm_odd {ns : List Int} (h : ∀ x ∈ ns, 0 < x) : Fm (oddI ns) := ⟨fun x hx => h x (odd_sub hx), odd_asc ns⟩
theorem pr_big {n : Int} (hn : 0 < n) : ∀ {a : List Int}, (∀ x ∈ a, n < x) → pr a n = false
  | [], _ => rfl
  | d :: r, h => by
    have hd := h d List.mem_cons_self
    show xor (decide (n % d = 0)) (pr r n) = false
    rw [pr_big hn fun x hx => h x (List.mem_cons_of_mem _ hx), Int.emod_eq_of_lt (by omega) hd, decide_eq_false (by omega)] <;> rfl
theorem pr_head {x : Int} {a : List Int} (h : Fm (x :: a)) : pr (x :: a) x = true := by
  show xor (decide (x % x = 0)) (pr a x) = true
  rw [Int.emod_self, pr_big (h.pos x List.mem_cons_self) (fun y hy => (List.pairwise_cons.mp h.asc).1 y hy)] <;> rfl
/-- a form is its numbers -/
theorem fm_one : ∀ {a b : List Int}, Fm a → Fm b → (∀ n, 0 < n → pr a n = pr b n) → a = b
  | [], [], _, _, _ => rfl
  | [], y :: b, _, hb, h => by
    have := h y (hb.pos y List.mem_cons_self)
    rw [pr_head hb] at this
    cases this
  | x :: a, [], ha, _, h => by
    have := h x (ha.pos x List.mem_cons_self)
    rw [pr_head ha] at this
    cases this
  | x :: a, y :: b, ha, hb, h => by
    have hx := ha.pos x List.mem_cons_self
    have hy := hb.pos y List.mem_cons_self
    have e : x = y := by
      have low : ∀ {u v : Int} {c d : List Int}, Fm (u :: c) → Fm (v :: d) → u < v → pr (u :: c) u = pr (v :: d) u → False := fun {u v c d} h1 h2 lt q => by
        rw [pr_head h1, pr_big (h1.pos u List.mem_cons_self) (fun z hz => by
          rcases List.mem_cons.mp hz with w | w
          · omega
          · have := (List.pairwise_cons.mp h2.asc).1 z w
            omega)] at q
        cases q
      rcases Int.lt_trichotomy x y with z | z | z
      · exact (low ha hb z (h x hx)).elim
      · exact z
      · exact (low hb ha z (h y hy).symm).elim
    subst e
    rw [fm_one ha.tail hb.tail fun n hn => ?_]
    have := h n hn
    have q : xor (decide (n % x = 0)) (pr a n) = xor (decide (n % x = 0)) (pr b n) := this
    exact Bool.xor_right_inj.mp q
/-! least common multiples -/
theorem mod_dvd {n d : Int} : n % d = 0 ↔ d.natAbs ∣ n.natAbs := by
  rw [Int.natAbs_dvd_natAbs]
  exact ⟨Int.dvd_of_emod_eq_zero, Int.emod_eq_zero_of_dvd⟩
theorem mod_lcm (n i j : Int) : decide (n % lcmI i j = 0) = (decide (n % i = 0) && decide (n % j = 0)) := by
  rw [Bool.eq_iff_iff, Bool.and_eq_true, decide_eq_true_iff, decide_eq_true_iff, decide_eq_true_iff, mod_dvd, mod_dvd, mod_dvd]
  unfold lcmI
  rw [Int.natAbs_natCast]
  exact Nat.lcm_dvd_iff
theorem pr_lcm1 (i n : Int) : ∀ b : List Int, pr (b.map (lcmI i)) n = (decide (n % i = 0) && pr b n)
  | [] => by
    show false = (_ && false)
    rw [Bool.and_false]
  | j :: b => by
    show xor (decide (n % lcmI i j = 0)) (pr (b.map (lcmI i)) n) = (decide (n % i = 0) && xor (decide (n % j = 0)) (pr b n))
    rw [mod_lcm, pr_lcm1 i n b]
    cases decide (n % i = 0) <;> cases decide (n % j = 0) <;> cases pr b n <;> rfl
theorem pr_lcms (b : List Int) (n : Int) : ∀ a : List Int, pr (lcms a b) n = (pr a n && pr b n)
  | [] => rfl
  | i :: a => by
    have e : lcms (i :: a) b = b.map (lcmI i) ++ lcms a b := by
      unfold lcms
      rw [List.map_cons, List.flatten_cons]
    rw [e, pr_app, pr_lcm1, pr_lcms b n a]
    show _ = (xor (decide (n % i = 0)) (pr a n) && pr b n)
    cases decide (n % i = 0) <;> cases pr a n <;> cases pr b n <;> rfl
theorem lcms_pos {a b : List Int} (ha : ∀ x ∈ a, 0 < x) (hb : ∀ x ∈ b, 0 < x) : ∀ x ∈ lcms a b, 0 < x := fun x hx => by
  unfold lcms at hx
  obtain ⟨l, hl, hx⟩ := List.mem_flatten.mp hx
  obtain ⟨i, hi, rfl⟩ := List.mem_map.mp hl
  obtain ⟨j, hj, rfl⟩ := List.mem_map.mp hx
  have h1 := ha i hi
  have h2 := hb j hj
  have : 0 < Nat.lcm i.natAbs j.natAbs := Nat.lcm_pos (by omega) (by omega)
  unfold lcmI
  omega
/-! scaled, spread -/
theorem mod_scaled (n : Int) {d f : Int} (hd : 0 < d) (hf : 1 ≤ f) : n % (d / gcdI d f) = 0 ↔ (n * f) % d = 0 := by
  have hg := gcdI_pos (i := d) hf
  have h1 : gcdI d f ∣ d := by
    unfold gcdI
    exact Int.natAbs_dvd_natAbs.mp (by rw [Int.natAbs_natCast]; exact Nat.gcd_dvd_left _ _)
  have h2 : gcdI d f ∣ f := by
    unfold gcdI
    exact Int.natAbs_dvd_natAbs.mp (by rw [Int.natAbs_natCast]; exact Nat.gcd_dvd_right _ _)
  obtain ⟨d', hd'⟩ := h1
  obtain ⟨f', hf'⟩ := h2
  have e1 : d / gcdI d f = d' := by
    have := Int.mul_ediv_cancel_left d' (by omega : gcdI d f ≠ 0)
    rw [← hd'] at this
    exact this
  have cop : Nat.Coprime d'.natAbs f'.natAbs := by
    have hgn : 0 < Nat.gcd d.natAbs f.natAbs := Nat.gcd_pos_of_pos_left _ (by omega)
    have a1 : d.natAbs = Nat.gcd d.natAbs f.natAbs * d'.natAbs := by
      have := congrArg Int.natAbs hd'
      rw [Int.natAbs_mul] at this
      unfold gcdI at this
      rwa [Int.natAbs_natCast] at this
    have a2 : f.natAbs = Nat.gcd d.natAbs f.natAbs * f'.natAbs := by
      have := congrArg Int.natAbs hf'
      rw [Int.natAbs_mul] at this
      unfold gcdI at this
      rwa [Int.natAbs_natCast] at this
    have := Nat.coprime_div_gcd_div_gcd hgn
    have b1 : d.natAbs / Nat.gcd d.natAbs f.natAbs = d'.natAbs := by
      have := Nat.mul_div_cancel_left d'.natAbs hgn
      rwa [← a1] at this
    have b2 : f.natAbs / Nat.gcd d.natAbs f.natAbs = f'.natAbs := by
      have := Nat.mul_div_cancel_left f'.natAbs hgn
      rwa [← a2] at this
    rwa [b1, b2] at this
  rw [e1, mod_dvd, mod_dvd]
  have hgn : 0 < (gcdI d f).natAbs := by omega
  have c1 : d.natAbs = (gcdI d f).natAbs * d'.natAbs := by
    have := congrArg Int.natAbs hd'
    rwa [Int.natAbs_mul] at this
  have c2 : f.natAbs = (gcdI d f).natAbs * f'.natAbs := by
    have := congrArg Int.natAbs hf'
    rwa [Int.natAbs_mul] at this
  rw [Int.natAbs_mul, c1, c2, show n.natAbs * ((gcdI d f).natAbs * f'.natAbs) = (gcdI d f).natAbs * (n.natAbs * f'.natAbs) from Nat.mul_left_comm ..]
  constructor
  · intro h
    exact Nat.mul_dvd_mul_left _ (Nat.dvd_trans h (Nat.dvd_mul_right _ _))
  · intro h
    exact cop.dvd_of_dvd_mul_right (Nat.dvd_of_mul_dvd_mul_left hgn h)
theorem pr_scaled (n : Int) {f : Int} (hf : 1 ≤ f) : ∀ {a : List Int}, (∀ x ∈ a, 0 < x) → pr (a.map fun d => d / gcdI d f) n = pr a (n * f)
  | [], _ => rfl
  | d :: a, h => by
    show xor (decide (n % (d / gcdI d f) = 0)) (pr (a.map _) n) = xor (decide ((n * f) % d = 0)) (pr a (n * f))
    rw [pr_scaled n hf (fun x hx => h x (List.mem_cons_of_mem _ hx))]
    congr 1
    exact decide_eq_decide.mpr (mod_scaled n (h d List.mem_cons_self) hf)
theorem pr_spread (n : Int) {f : Int} (hf : 1 ≤ f) : ∀ (a : List Int), pr (a.map fun d => d * f) n = (decide (n % f = 0) && pr a (n / f))
  | [] => by
    show false = (_ && false)
    rw [Bool.and_false]
  | d :: a => by
    show xor (decide (n % (d * f) = 0)) (pr (a.map _) n) = (decide (n % f = 0) && xor (decide (n / f % d = 0)) (pr a (n / f)))
    rw [pr_spread n hf a]
    have e : decide (n % (d * f) = 0) = (decide (n % f = 0) && decide (n / f % d = 0)) := by
      rw [Bool.eq_iff_iff, Bool.and_eq_true, decide_eq_true_iff, decide_eq_true_iff, decide_eq_true_iff]
      constructor
      · intro h
        obtain ⟨k, hk⟩ := Int.dvd_of_emod_eq_zero h
        have e2 : n = f * (d * k) := by rw [hk, Int.mul_comm d f, Int.mul_assoc]
        refine ⟨Int.emod_eq_zero_of_dvd ⟨_, e2⟩, ?_⟩
        rw [e2, Int.mul_ediv_cancel_left _ (by omega : f ≠ 0)]
        exact Int.emod_eq_zero_of_dvd ⟨k, rfl⟩
      · rintro ⟨h1, h2⟩
        obtain ⟨k, hk⟩ := Int.dvd_of_emod_eq_zero h1
        rw [hk, Int.mul_ediv_cancel_left _ (by omega : f ≠ 0)] at h2
        obtain ⟨j, hj⟩ := Int.dvd_of_emod_eq_zero h2
        refine Int.emod_eq_zero_of_dvd ⟨j, ?_⟩
        rw [hk, hj, ← Int.mul_assoc, Int.mul_comm f d]
    rw [e]
    cases decide (n % f = 0) <;> cases decide (n / f % d = 0) <;> cases pr a (n / f) <;> rfl
end K06
set_option maxRecDepth 100000
set_option maxHeartbeats 4000000
/-! the tape of drawn numbers -/
namespace K06
open PySem PySem.Spec PyProof.Rows L2 Dv
structure Tp where
  a : Int
  b : Int
  c : Int
abbrev Tp.xs (T : Tp) : List D := [.int T.a, .int T.b, .int T.c]
def M57 : Int := 10 ^ (64 : Int).toNat + 57
def M9 : Int := 10 ^ (64 : Int).toNat + 9
def nxt (T : Tp) (m : Int) : Int × Tp :=
  if 0 < T.a then (T.a % m, ⟨T.a / m, T.b, T.c⟩)
  else ((((T.b + 1000000033 * (T.c + 1)) ^ (3 : Int).toNat % M57 + 998244397 * (T.c + 1)) ^ (3 : Int).toNat % M9) / 29983 % m, ⟨T.a, T.b, T.c + 1⟩)
structure TpOk (T : Tp) : Prop where
  a : 0 ≤ T.a
  b : 0 ≤ T.b
  b' : T.b < 2 ^ 200
  c : 0 ≤ T.c
  c' : T.c < 2 ^ 60
instance (T : Tp) : Decidable (TpOk T) := decidable_of_iff (0 ≤ T.a ∧ 0 ≤ T.b ∧ T.b < 2 ^ 200 ∧ 0 ≤ T.c ∧ T.c < 2 ^ 60) ⟨fun ⟨h1, h2, h3, h4, h5⟩ => ⟨h1, h2, h3, h4, h5⟩, fun h => ⟨h.a, h.b, h.b', h.c, h.c'⟩⟩
theorem bits_lt {i : Int} {k : Nat} (h0 : 0 ≤ i) (h : i < 2 ^ k) (hk : 0 < k) : bits i < k := by
  unfold bits
  by_cases z : i.natAbs = 0
  · rw [z, Nat.log2_zero]
    exact hk
  · refine (Nat.log2_lt z).mpr ?_
    have e : ((i.natAbs : Nat) : Int) = i := by omega
    have h2 : ((i.natAbs : Nat) : Int) < ((2 ^ k : Nat) : Int) := by
      rw [e, Int.natCast_pow]
      exact h
    exact Int.ofNat_lt.mp h2
theorem nxt_range (T : Tp) {m : Int} (hT : TpOk T) (hm : 1 ≤ m) : 0 ≤ (nxt T m).1 ∧ (nxt T m).1 < m := by
  unfold nxt
  split
  · exact ⟨Int.emod_nonneg _ (by omega), Int.emod_lt_of_pos _ (by omega)⟩
  · exact ⟨Int.emod_nonneg _ (by omega), Int.emod_lt_of_pos _ (by omega)⟩
/-- a number drawn: the tape stays one, its counter grows by one at most -/
theorem nxt_ok (T : Tp) {m : Int} (hT : TpOk T) (hm : 1 ≤ m) (hc : T.c + 1 < 2 ^ 60) : TpOk (nxt T m).2 ∧ (nxt T m).2.c ≤ T.c + 1 := by
  unfold nxt
  split
  · exact ⟨⟨Int.ediv_nonneg hT.a (by omega), hT.b, hT.b', hT.c, hT.c'⟩, by show T.c ≤ T.c + 1; omega⟩
  · exact ⟨⟨hT.a, hT.b, hT.b', by have := hT.c; show 0 ≤ T.c + 1; omega, hc⟩, Int.le_refl _⟩
def tpC : Option Cell → Option Tp
  | some (.lst [.int a, .int b, .int c]) => some ⟨a, b, c⟩
  | _ => none
theorem tpC_eq {o : Option Cell} {T : Tp} (h : tpC o = some T) : o = some (.lst T.xs) := by
  unfold tpC at h
  split at h
  · cases h
    rfl
  · cases h
theorem tpC_of (T : Tp) : tpC (some (.lst T.xs)) = some T := rfl
/-- a number is drawn from the tape in cell j -/
def m__law_next : Fn := fun ds ce => match ds with
  | [.rf j, .int m] => match tpC ce[j]? with
    | some T => if TpOk T ∧ T.c + 1 < 2 ^ 60 ∧ 1 ≤ m ∧ bits m < 8000 then .ok (.int (nxt T m).1) (ce.set j (.lst (nxt T m).2.xs)) else .no
    | none => .no
  | _ => .no
theorem rc {d : D} {s : S} : dC d s = .ok d s := rfl
theorem ce_set_get {ce : List Cell} {j : Nat} {c c' : Cell} (h : ce[j]? = some c) : (ce.set j c')[j]? = some c' := by
  rw [List.getElem?_set_self (List.getElem?_eq_some_iff.mp h).1]
theorem M57_ok : 0 < M57 ∧ M57 < 2 ^ 220 := by
  unfold M57
  decide +kernel
theorem M9_ok : 0 < M9 ∧ M9 < 2 ^ 220 := by
  unfold M9
  decide +kernel
section
variable {s : S} {j : Nat} {T : Tp}
theorem tp_rd {k : Nat} {x : Int} (h0 : s.sl[0]? = some (some (.rf j))) (h1 : s.ce[j]? = some (.lst T.xs)) (hk : T.xs[k]? = some (.int x)) (h3 : k < 3) : dOp pIx (dVar 0) (dC (.int (k : Nat))) s = .ok (.int x) s := by
  refine (r_op (r_var h0) rfl).trans ?_
  show poK s (atL (lookU s.ce (.rf j)) ((k : Nat) : Int)) = _
  have e : lookU s.ce (.rf j) = some T.xs := by
    show cellL s.ce[j]? = _
    rw [h1] <;> rfl
  rw [e]
  match k, h3 with
  | 0, _ =>
    cases hk
    rfl
  | 1, _ =>
    cases hk
    rfl
  | 2, _ =>
    cases hk
    rfl
theorem tp_wr {k : Nat} {x : Int} {f : DE} (h0 : s.sl[0]? = some (some (.rf j))) (h1 : s.ce[j]? = some (.lst T.xs)) (hf : f s = .ok (.int x) s) (h3 : k < 3) : sSetI (dVar 0) (dC (.int (k : Nat))) f s = .nx ⟨s.sl, s.ce.set j (.lst (T.xs.set k (.int x))), s.n0⟩ := by
  unfold sSetI
  rw [hf]
  show bindO (dVar 0 s) _ = _
  rw [r_var h0]
  show (match cellL s.ce[j]? with
    | some xs => match ixN xs.length ((k : Nat) : Int) with
      | some k => O.nx ⟨s.sl, s.ce.set j (.lst (xs.set k (.int x))), s.n0⟩
      | none => .no
    | none => .no) = _
  rw [h1]
  match k, h3 with
  | 0, _ => rfl
  | 1, _ => rfl
  | 2, _ => rfl
end
theorem does_next : Does 4 D__law_next m__law_next := by
  intro ds ce hl
  unfold m__law_next
  split
  · rename_i j m
    cases e1 : tpC ce[j]? with
    | none => trivial
    | some T =>
      have hc := tpC_eq e1
      by_cases hg : TpOk T ∧ T.c + 1 < 2 ^ 60 ∧ 1 ≤ m ∧ bits m < 8000
      · show DoesK ce _ (if TpOk T ∧ T.c + 1 < 2 ^ 60 ∧ 1 ≤ m ∧ bits m < 8000 then .ok (.int (nxt T m).1) (ce.set j (.lst (nxt T m).2.xs)) else .no)
        rw [if_pos hg]
        obtain ⟨hT, hc1, hm, hb⟩ := hg
        have low3 : ∀ U : Tp, lowC ce.length (.lst U.xs) = true := fun U => rfl
        by_cases h0 : 0 < T.a
        · have en : nxt T m = (T.a % m, ⟨T.a / m, T.b, T.c⟩) := by
            unfold nxt
            rw [if_pos h0]
          rw [en]
          let s0 : S := initS 4 [.rf j, .int m] ce
          let s1 : S := ⟨[some (.rf j), some (.int m), some (.int (T.a % m)), none], ce, ce.length⟩
          have r0 : dOp pIx (dVar 0) (dC (.int 0)) s0 = .ok (.int T.a) s0 := tp_rd (k := 0) (j := j) rfl hc rfl (by decide)
          have r1 : dOp pIx (dVar 0) (dC (.int 0)) s1 = .ok (.int T.a) s1 := tp_rd (k := 0) (j := j) rfl hc rfl (by decide)
          have q1 : sSet 2 (dOp pMod (dOp pIx (dVar 0) (dC (.int 0))) (dVar 1)) s0 = .nx s1 := r_set (i_mod r0 (r_var rfl) (by omega))
          have q2 : sSetI (dVar 0) (dC (.int 0)) (dOp pDiv (dOp pIx (dVar 0) (dC (.int 0))) (dVar 1)) s1 = .nx ⟨s1.sl, ce.set j (.lst [.int (T.a / m), .int T.b, .int T.c]), ce.length⟩ := tp_wr (k := 0) (j := j) rfl hc (i_div r1 (r_var rfl) (by omega) (by omega)) (by decide)
          have t1 : bTest (dOp pGt (dOp pIx (dVar 0) (dC (.int 0))) (dC (.int 0))) s0 = .ok true s0 := r_test ((r_op r0 rfl).trans (by
            show R.ok (.bl (decide (0 < T.a))) s0 = _
            rw [decide_eq_true h0]))
          refine .inl ⟨⟨s1.sl, ce.set j (.lst [.int (T.a / m), .int T.b, .int T.c]), ce.length⟩, r_seq_rt ((r_sif_t t1).trans ((r_seq q1).trans ((r_seq q2).trans (r_ret rfl)))), rfl, Tail.one (junk := []) (by rw [List.append_nil]) (low3 ⟨_, _, _⟩)⟩
        · have en : nxt T m = ((((T.b + 1000000033 * (T.c + 1)) ^ (3 : Int).toNat % M57 + 998244397 * (T.c + 1)) ^ (3 : Int).toNat % M9) / 29983 % m, ⟨T.a, T.b, T.c + 1⟩) := by
            unfold nxt
            rw [if_neg h0]
          rw [en]
          have bc : bits (T.c + 1) < 60 := bits_lt (by have := hT.c; omega) hc1 (by decide)
          have c1 := hT.c
          have c2 := hT.b
          have c3 := hT.b'
          let U : Tp := ⟨T.a, T.b, T.c + 1⟩
          let ce1 := ce.set j (.lst U.xs)
          have hc' : ce1[j]? = some (.lst U.xs) := ce_set_get hc
          let s0 : S := initS 4 [.rf j, .int m] ce
          let s1 : S := ⟨[some (.rf j), some (.int m), none, none], ce1, ce.length⟩
          let x1 : Int := (T.b + 1000000033 * (T.c + 1)) ^ (3 : Int).toNat % M57
          let s2 : S := ⟨[some (.rf j), some (.int m), none, some (.int x1)], ce1, ce.length⟩
          let x2 : Int := (x1 + 998244397 * (T.c + 1)) ^ (3 : Int).toNat % M9
          let s3 : S := ⟨[some (.rf j), some (.int m), none, some (.int x2)], ce1, ce.length⟩
          have r0 : dOp pIx (dVar 0) (dC (.int 0)) s0 = .ok (.int T.a) s0 := tp_rd (k := 0) (j := j) rfl hc rfl (by decide)
          have t1 : bTest (dOp pGt (dOp pIx (dVar 0) (dC (.int 0))) (dC (.int 0))) s0 = .ok false s0 := r_test ((i_gt r0 rc).trans (by rw [decide_eq_false h0]))
          have q1 : sSetI (dVar 0) (dC (.int 2)) (dOp pAdd (dOp pIx (dVar 0) (dC (.int 2))) (dC (.int 1))) s0 = .nx s1 := tp_wr (T := T) (k := 2) (j := j) rfl hc (i_add (tp_rd (T := T) (k := 2) (j := j) rfl hc rfl (by decide)) rc) (by decide)
          have p64 : dOp pPow (dC (.int 10)) (dC (.int 64)) s1 = .ok (.int (10 ^ (64 : Int).toNat)) s1 := i_pow rc rc (by decide)
          have p64' : dOp pPow (dC (.int 10)) (dC (.int 64)) s2 = .ok (.int (10 ^ (64 : Int).toNat)) s2 := i_pow rc rc (by decide)
          have bk : bits 1000000033 < 31 := by decide
          have bk2 : bits 998244397 < 31 := by decide
          have b1' : bits (T.b + 1000000033 * (T.c + 1)) < 210 := bits_lt (by omega) (by
            have : (2 : Int) ^ 200 + 1000000033 * 2 ^ 60 < 2 ^ 210 := by decide
            omega) (by decide)
          have q2 : sSet 3 (dOp pMod (dOp pPow (dOp pAdd (dOp pIx (dVar 0) (dC (.int 1))) (dOp pMul (dC (.int 1000000033)) (dOp pIx (dVar 0) (dC (.int 2))))) (dC (.int 3))) (dOp pAdd (dOp pPow (dC (.int 10)) (dC (.int 64))) (dC (.int 57)))) s1 = .nx s2 :=
            r_set (i_mod (i_pow (i_add (tp_rd (T := U) (k := 1) (j := j) rfl hc' rfl (by decide)) (i_mul rc (tp_rd (T := U) (k := 2) (j := j) rfl hc' rfl (by decide)) (by show bits 1000000033 + bits (T.c + 1) < 900000; omega))) rfl ⟨by decide, by show ((bits (T.b + 1000000033 * (T.c + 1)) : Int) + 1) * 3 ≤ 134217728; omega⟩) (i_add p64 rc) M57_ok.1)
          have x1r : 0 ≤ x1 ∧ x1 < 2 ^ 220 := ⟨Int.emod_nonneg _ (by have := M57_ok.1; omega), Int.lt_trans (Int.emod_lt_of_pos _ M57_ok.1) M57_ok.2⟩
          have b2' : bits (x1 + 998244397 * (T.c + 1)) < 230 := bits_lt (by omega) (by
            have : (2 : Int) ^ 220 + 998244397 * 2 ^ 60 < 2 ^ 230 := by decide
            omega) (by decide)
          have q3 : sSet 3 (dOp pMod (dOp pPow (dOp pAdd (dVar 3) (dOp pMul (dC (.int 998244397)) (dOp pIx (dVar 0) (dC (.int 2))))) (dC (.int 3))) (dOp pAdd (dOp pPow (dC (.int 10)) (dC (.int 64))) (dC (.int 9)))) s2 = .nx s3 :=
            r_set (i_mod (i_pow (i_add (i := x1) (r_var rfl) (i_mul rc (tp_rd (T := U) (k := 2) (j := j) rfl hc' rfl (by decide)) (by show bits 998244397 + bits (T.c + 1) < 900000; omega))) rfl ⟨by decide, by show ((bits (x1 + 998244397 * (T.c + 1)) : Int) + 1) * 3 ≤ 134217728; omega⟩) (i_add p64' rc) M9_ok.1)
          have q4 : dOp pMod (dOp pDiv (dVar 3) (dC (.int 29983))) (dVar 1) s3 = .ok (.int (x2 / 29983 % m)) s3 := i_mod (i_div (r_var rfl) rc (by decide) (by decide)) (r_var rfl) (by omega)
          exact .inl ⟨s3, (r_seq ((r_sif_f t1).trans rfl)).trans ((r_seq q1).trans ((r_seq q2).trans ((r_seq q3).trans (r_ret q4)))), rfl, Tail.one (junk := []) (by rw [List.append_nil]) (low3 U)⟩
      · show DoesK ce _ (if TpOk T ∧ T.c + 1 < 2 ^ 60 ∧ 1 ≤ m ∧ bits m < 8000 then .ok (.int (nxt T m).1) (ce.set j (.lst (nxt T m).2.xs)) else .no)
        rw [if_neg hg]
        trivial
  · trivial
end K06
set_option maxRecDepth 100000
set_option maxHeartbeats 4000000
namespace K06
open PySem PySem.Spec PyProof.Rows L2 Dv
def cellN (ns : List Int) (k : Nat) : Int := match ns[k]? with
  | some x => if x < 0 then -x else x
  | none => 0
def E18 : Int := 10 ^ (18 : Int).toNat
def M67 : Int := 10 ^ (36 : Int).toNat + 67
def tp0 (ns : List Int) (k : Nat) : Tp := ⟨if cellN ns k - E18 > 0 then cellN ns k - E18 else 0, cellN ns k % M67 * 71 + (k : Nat), 0⟩
theorem M67_ok : 0 < M67 ∧ M67 < 2 ^ 130 := by
  unfold M67
  decide +kernel
theorem cellN_nn (ns : List Int) (k : Nat) : 0 ≤ cellN ns k := by
  unfold cellN
  split
  · split <;> omega
  · omega
theorem tp0_ok (ns : List Int) {k : Nat} (hk : k < 64) : TpOk (tp0 ns k) := by
  have h1 := cellN_nn ns k
  have h2 := Int.emod_nonneg (cellN ns k) (by have := M67_ok.1; omega : M67 ≠ 0)
  have h3 := Int.emod_lt_of_pos (cellN ns k) M67_ok.1
  have h4 := M67_ok.2
  refine ⟨?_, ?_, ?_, Int.le_refl _, by show (0 : Int) < 2 ^ 60; decide⟩
  · show 0 ≤ (if cellN ns k - E18 > 0 then cellN ns k - E18 else 0)
    split <;> omega
  · show 0 ≤ cellN ns k % M67 * 71 + (k : Nat)
    omega
  · show cellN ns k % M67 * 71 + (k : Nat) < 2 ^ 200
    have : (2 : Int) ^ 130 * 71 + 64 < 2 ^ 200 := by decide
    omega
theorem ixN_at {n k : Nat} (h : k < n) : ixN n ((k : Nat) : Int) = some k := by
  unfold ixN
  rw [if_pos (by omega), if_pos (by omega), Int.toNat_natCast]
def m__law_tape : Fn := fun ds ce => match ds with
  | [.ro xs, .int i] => match intsD xs with
    | some ns => if 0 ≤ i ∧ i < 64 then .nl (tp0 ns i.toNat).xs ce else .no
    | none => .no
  | _ => .no
theorem does_tape : Does 3 D__law_tape m__law_tape := by
  intro ds ce hl
  unfold m__law_tape
  split
  · rename_i xs i
    cases e1 : intsD xs with
    | none => trivial
    | some ns =>
      have ex := intsD_eq e1
      subst ex
      by_cases hg : 0 ≤ i ∧ i < 64
      · show DoesK ce _ (if 0 ≤ i ∧ i < 64 then .nl (tp0 ns i.toNat).xs ce else .no)
        rw [if_pos hg]
        obtain ⟨k, rfl⟩ : ∃ k : Nat, i = (k : Nat) := ⟨i.toNat, by omega⟩
        rw [Int.toNat_natCast]
        let s0 : S := initS 3 [.ro (ns.map D.int), .int (k : Nat)] ce
        let s1 : S := ⟨[some (.ro (ns.map D.int)), some (.int (k : Nat)), some (.int (cellN ns k))], ce, ce.length⟩
        have el : dBi (b1 lenD) (aCons (dVar 0) aNil) s0 = .ok (.int (ns.length : Nat)) s0 := by
          rw [r_bi (r_a1 (r_var (i := 0) rfl))]
          show R.ok (.int (((ns.map D.int).length : Nat) : Int)) s0 = _
          rw [List.length_map]
        have t1 : bTest (dOp pLt (dVar 1) (dBi (b1 lenD) (aCons (dVar 0) aNil))) s0 = .ok (decide (((k : Nat) : Int) < ((ns.length : Nat) : Int))) s0 := r_test (i_lt (r_var (i := 1) rfl) el)
        have q0 : dIf (bTest (dOp pLt (dVar 1) (dBi (b1 lenD) (aCons (dVar 0) aNil)))) (dBi (b1 absD) (aCons (dOp pIx (dVar 0) (dVar 1)) aNil)) (dC (.int 0)) s0 = .ok (.int (cellN ns k)) s0 := by
          by_cases h : k < ns.length
          · rw [decide_eq_true (by omega)] at t1
            rw [r_if_t t1]
            have ei : dOp pIx (dVar 0) (dVar 1) s0 = .ok (.int ns[k]) s0 := by
              rw [r_op (r_var (i := 0) rfl) (r_var (i := 1) rfl)]
              show poK s0 (itemK ((ixN (ns.map D.int).length ((k : Nat) : Int)).bind fun j => (ns.map D.int)[j]?)) = _
              rw [ixN_at (by rw [List.length_map]; exact h)]
              show poK s0 (itemK (ns.map D.int)[k]?) = _
              rw [List.getElem?_map, List.getElem?_eq_getElem h] <;> rfl
            rw [r_bi (r_a1 ei)]
            show R.ok (.int (if ns[k] < 0 then -ns[k] else ns[k])) s0 = _
            unfold cellN
            rw [List.getElem?_eq_getElem h]
          · rw [decide_eq_false (by omega)] at t1
            rw [r_if_f t1]
            unfold cellN
            rw [List.getElem?_eq_none (by omega)] <;> rfl
        have q1 : sSet 2 (dIf (bTest (dOp pLt (dVar 1) (dBi (b1 lenD) (aCons (dVar 0) aNil)))) (dBi (b1 absD) (aCons (dOp pIx (dVar 0) (dVar 1)) aNil)) (dC (.int 0))) s0 = .nx s1 := r_set q0
        have m1 : dBi (b2 maxD) (aCons (dC (.int 0)) (aCons (dOp pSub (dVar 2) (dOp pPow (dC (.int 10)) (dC (.int 18)))) aNil)) s1 = .ok (.int (tp0 ns k).a) s1 := by
          rw [r_bi (r_a2 rc (i_sub (r_var (i := 2) rfl) (i_pow rc rc (by decide))))] <;> rfl
        have h3 := Int.emod_lt_of_pos (cellN ns k) M67_ok.1
        have h2 := Int.emod_nonneg (cellN ns k) (by have := M67_ok.1; omega : M67 ≠ 0)
        have h4 := M67_ok.2
        have bm : bits (cellN ns k % M67) < 130 := bits_lt h2 (by omega) (by decide)
        have b71 : bits 71 < 7 := by decide
        have m2 : dOp pAdd (dOp pMul (dOp pMod (dVar 2) (dOp pAdd (dOp pPow (dC (.int 10)) (dC (.int 36))) (dC (.int 67)))) (dC (.int 71))) (dVar 1) s1 = .ok (.int (tp0 ns k).b) s1 :=
          i_add (i_mul (i_mod (r_var (i := 2) rfl) (i_add (i_pow rc rc (by decide)) rc) M67_ok.1) rc (by show bits (cellN ns k % M67) + bits 71 < 900000; omega)) (r_var (i := 1) rfl)
        exact ⟨s1, (r_seq q1).trans (r_ret_nl (r_lst (r_a3 m1 m2 rc) (show 3 ≤ 100000 by decide))), rfl, Tail.id rfl⟩
      · show DoesK ce _ (if 0 ≤ i ∧ i < 64 then .nl (tp0 ns i.toNat).xs ce else .no)
        rw [if_neg hg]
        trivial
  · trivial
/-- a number is drawn -/
theorem next_run {ce : List Cell} {j : Nat} {T : Tp} {m : Int} (hc : ce[j]? = some (.lst T.xs)) (h : TpOk T ∧ T.c + 1 < 2 ^ 60 ∧ 1 ≤ m ∧ bits m < 8000) : m__law_next [.rf j, .int m] ce = .ok (.int (nxt T m).1) (ce.set j (.lst (nxt T m).2.xs)) := by
  show (match tpC ce[j]? with
    | some T => if TpOk T ∧ T.c + 1 < 2 ^ 60 ∧ 1 ≤ m ∧ bits m < 8000 then FR.ok (.int (nxt T m).1) (ce.set j (.lst (nxt T m).2.xs)) else .no
    | none => .no) = _
  rw [hc, tpC_of]
  show (if TpOk T ∧ T.c + 1 < 2 ^ 60 ∧ 1 ≤ m ∧ bits m < 8000 then FR.ok (.int (nxt T m).1) (ce.set j (.lst (nxt T m).2.xs)) else .no) = _
  rw [if_pos h]
theorem r_next {s : S} {j : Nat} {T : Tp} {m : Int} {f : DE} (h0 : s.sl[0]? = some (some (.rf j))) (hf : f s = .ok (.int m) s) (hc : s.ce[j]? = some (.lst T.xs)) (h : TpOk T ∧ T.c + 1 < 2 ^ 60 ∧ 1 ≤ m ∧ bits m < 8000) :
    dFz (dCall 2 m__law_next (aCons (dVar 0) (aCons f aNil))) s = .ok (.int (nxt T m).1) ⟨s.sl, s.ce.set j (.lst (nxt T m).2.xs), s.n0⟩ := by
  refine r_fz_ok ?_
  refine (r_call (r_a2 (r_var h0) hf) rfl).trans ?_
  rw [next_run hc h] <;> rfl
end K06
set_option maxRecDepth 100000
set_option maxHeartbeats 4000000
namespace K06
open PySem PySem.Spec PyProof.Rows L2 Dv
theorem r_loop {t : DT} {body : DS} {d : D} {ds : List D} {s s1 s2 : S} (h1 : t d s = some s1) (h2 : body s1 = .nx s2) : loop t body (d :: ds) s = loop t body ds s2 := by
  show tgO _ (t d s) = _
  rw [h1]
  show loopK (body s1) _ = _
  rw [h2] <;> rfl
abbrev S6 (j : Nat) (w f : D) (p m x : Option D) (ce : List Cell) (n0 : Nat) : S := ⟨[some (.rf j), some w, some f, p, m, x], ce, n0⟩
theorem bits_nat {n k : Nat} (h : n < 2 ^ k) (hk : 0 < k) : bits ((n : Nat) : Int) < k := by
  unfold bits
  rw [Int.natAbs_natCast]
  by_cases z : n = 0
  · subst z
    rw [Nat.log2_zero]
    exact hk
  · exact (Nat.log2_lt z).mpr h
abbrev pwBody : DS := sFor (iA rng1 (aCons (dFz (dCall 2 m__law_next (aCons (dVar 0) (aCons (dVar 4) aNil)))) aNil)) (tgN 5) (sSet 2 (dOp pMul (dVar 2) (dVar 3)))
theorem pow_small {p i : Nat} (hp : p ≤ 5) (hi : i ≤ 12) : p ^ i ≤ 5 ^ 12 := Nat.le_trans (Nat.pow_le_pow_left hp i) (Nat.pow_le_pow_right (by decide) hi)
theorem pw_run {j : Nat} {w : D} {f p m : Nat} {x : Option D} {ce : List Cell} {n0 : Nat} {T : Tp} (hc : ce[j]? = some (.lst T.xs)) (hT : TpOk T) (hc1 : T.c + 1 < 2 ^ 60) (hm : 1 ≤ m ∧ m ≤ 12) (hp : p ≤ 5) (hf : f < 2 ^ 100) :
    ∃ x', pwBody (S6 j w (.int (f : Nat)) (some (.int (p : Nat))) (some (.int (m : Nat))) x ce n0) = .nx (S6 j w (.int ((f * p ^ (nxt T (m : Nat)).1.toNat : Nat) : Int)) (some (.int (p : Nat))) (some (.int (m : Nat))) x' (ce.set j (.lst (nxt T (m : Nat)).2.xs)) n0) := by
  have hr := nxt_range T hT (m := (m : Nat)) (by omega)
  obtain ⟨r, er⟩ : ∃ r : Nat, (nxt T (m : Nat)).1 = (r : Nat) := ⟨(nxt T (m : Nat)).1.toNat, by omega⟩
  have hr2 : r ≤ 12 := by omega
  let ce' := ce.set j (.lst (nxt T (m : Nat)).2.xs)
  let st : Nat → S := fun i => S6 j w (.int ((f * p ^ i : Nat) : Int)) (some (.int (p : Nat))) (some (.int (m : Nat))) (if i = 0 then x else some (.int ((i - 1 : Nat) : Int))) ce' n0
  have bm : bits ((m : Nat) : Int) < 8000 := Nat.lt_trans (bits_nat (k := 10) (by omega) (by decide)) (by decide)
  have q1 : iA rng1 (aCons (dFz (dCall 2 m__law_next (aCons (dVar 0) (aCons (dVar 4) aNil)))) aNil) (S6 j w (.int (f : Nat)) (some (.int (p : Nat))) (some (.int (m : Nat))) x ce n0) = .ok (rngD 0 r) (st 0) := by
    refine (r_iA (r_a1 (r_next (j := j) rfl (r_var (i := 4) rfl) hc ⟨hT, hc1, by omega, bm⟩)) (xs := rngD 0 r) ?_).trans ?_
    · show (if (nxt T (m : Nat)).1.natAbs ≤ 1000000000000 then some (rngD 0 (nxt T (m : Nat)).1.toNat) else none) = _
      rw [er, if_pos (by omega), Int.toNat_natCast]
    · show RI.ok (rngD 0 r) _ = RI.ok (rngD 0 r) (S6 j w (.int ((f * p ^ 0 : Nat) : Int)) _ _ (if 0 = 0 then x else _) ce' n0)
      rw [if_pos rfl, Nat.pow_zero, Nat.mul_one]
  have q2 := loop_run (t := tgN 5) (body := sSet 2 (dOp pMul (dVar 2) (dVar 3))) st (rngD 0 r) 0 fun i d hd => by
    have hi : i < r := by
      have := (List.getElem?_eq_some_iff.mp hd).1
      rwa [rngD_len] at this
    have ed : d = .int ((i : Nat) : Int) := by
      have q : (rngD 0 r)[i]? = some (D.int (0 + (i : Nat))) := by simp [rngD, hi]
      rw [q] at hd
      rw [← Option.some.inj hd, Int.zero_add]
    subst ed
    rw [Nat.zero_add]
    refine ⟨_, rfl, .inl ?_⟩
    have hb : bits ((f * p ^ i : Nat) : Int) < 140 := bits_nat (by
      have h1 := pow_small hp (Nat.le_trans (Nat.le_of_lt hi) hr2)
      have h2 : f * p ^ i ≤ 2 ^ 100 * 5 ^ 12 := Nat.mul_le_mul (Nat.le_of_lt hf) h1
      exact Nat.lt_of_le_of_lt h2 (by decide)) (by decide)
    have hb2 : bits ((p : Nat) : Int) < 10 := bits_nat (by omega) (by decide)
    refine (r_set (i_mul (i := ((f * p ^ i : Nat) : Int)) (j := ((p : Nat) : Int)) (r_var (i := 2) rfl) (r_var (i := 3) rfl) (by omega))).trans ?_
    · have em : ((f * p ^ i : Nat) : Int) * ((p : Nat) : Int) = ((f * p ^ (i + 1) : Nat) : Int) := by
        rw [← Int.natCast_mul, Nat.mul_assoc, ← Nat.pow_succ]
      rw [em]
      show O.nx _ = O.nx (S6 j w (.int ((f * p ^ (i + 1) : Nat) : Int)) (some (.int (p : Nat))) (some (.int (m : Nat))) (if i + 1 = 0 then x else some (.int ((i + 1 - 1 : Nat) : Int))) ce' n0)
      rw [if_neg (by omega), Nat.add_sub_cancel] <;> rfl
  rw [rngD_len, Nat.zero_add] at q2
  refine ⟨if r = 0 then x else some (.int ((r - 1 : Nat) : Int)), (r_for q1).trans (q2.trans ?_)⟩
  rw [er, Int.toNat_natCast]
end K06
set_option maxRecDepth 100000
set_option maxHeartbeats 4000000
namespace K06
open PySem PySem.Spec PyProof.Rows L2 Dv
def E20 : Int := 10 ^ (20 : Int).toNat
def pwR (T : Tp) : Nat × Tp :=
  let a := nxt T ((12 : Nat) : Int)
  let b := nxt a.2 ((7 : Nat) : Int)
  let c := nxt b.2 ((4 : Nat) : Int)
  (1 * 2 ^ a.1.toNat * 3 ^ b.1.toNat * 5 ^ c.1.toNat, c.2)
def oneR (T : Tp) (way : Int) : Int × Tp :=
  if way = 0 then (1 + (nxt T 12).1, (nxt T 12).2)
  else if way = 1 then (((pwR T).1 : Nat), (pwR T).2)
  else (if way % 2 = 0 then 1 + (nxt T (E20 - 1)).1 else E20 - 1 - (nxt (nxt T (E20 - 1)).2 5).1, (nxt (nxt T (E20 - 1)).2 5).2)
theorem E20_ok : 1 ≤ E20 - 1 ∧ bits (E20 - 1) < 8000 ∧ E20 = 100000000000000000000 := by
  unfold E20
  decide +kernel
def m__law_one : Fn := fun ds ce => match ds with
  | [.rf j, .int way] => match tpC ce[j]? with
    | some T => if TpOk T ∧ T.c + 10 < 2 ^ 60 ∧ 0 ≤ way then .ok (.int (oneR T way).1) (ce.set j (.lst (oneR T way).2.xs)) else .no
    | none => .no
  | _ => .no
theorem nxt_le {T : Tp} {m : Int} {k : Nat} (hT : TpOk T) (hm : 1 ≤ m) (hc : T.c + (k + 1 : Nat) < 2 ^ 60) : TpOk (nxt T m).2 ∧ (nxt T m).2.c + (k : Nat) < 2 ^ 60 := by
  obtain ⟨h1, h2⟩ := nxt_ok T hT hm (by omega)
  exact ⟨h1, by omega⟩
theorem ce_set2 {ce : List Cell} {j : Nat} {c d : Cell} : (ce.set j c).set j d = ce.set j d := by simp
theorem does_one' : Does 6 (D__law_one m__law_next) m__law_one := by
  intro ds ce hl
  unfold m__law_one
  split
  · rename_i j way
    cases e1 : tpC ce[j]? with
    | none => trivial
    | some T =>
      have hc := tpC_eq e1
      by_cases hg : TpOk T ∧ T.c + 10 < 2 ^ 60 ∧ 0 ≤ way
      · show DoesK ce _ (if TpOk T ∧ T.c + 10 < 2 ^ 60 ∧ 0 ≤ way then .ok (.int (oneR T way).1) (ce.set j (.lst (oneR T way).2.xs)) else .no)
        rw [if_pos hg]
        obtain ⟨hT, hc1, hw⟩ := hg
        have low3 : ∀ U : Tp, lowC ce.length (.lst U.xs) = true := fun U => rfl
        let s0 : S := initS 6 [.rf j, .int way] ce
        have t1 : bTest (dOp pEq (dVar 1) (dC (.int 0))) s0 = .ok (decide (way = 0)) s0 := r_test (i_eq (r_var (i := 1) rfl) rc)
        have t2 : bTest (dOp pEq (dVar 1) (dC (.int 1))) s0 = .ok (decide (way = 1)) s0 := r_test (i_eq (r_var (i := 1) rfl) rc)
        by_cases w0 : way = 0
        · have er : oneR T way = (1 + (nxt T 12).1, (nxt T 12).2) := by
            unfold oneR
            rw [if_pos w0]
          rw [er]
          rw [decide_eq_true w0] at t1
          have q1 : dOp pAdd (dC (.int 1)) (dFz (dCall 2 m__law_next (aCons (dVar 0) (aCons (dC (.int 12)) aNil)))) s0 = .ok (.int (1 + (nxt T 12).1)) ⟨s0.sl, ce.set j (.lst (nxt T 12).2.xs), ce.length⟩ := i_add rc (r_next (j := j) rfl rc hc ⟨hT, by omega, by decide, by decide⟩)
          exact .inl ⟨_, r_seq_rt ((r_sif_t t1).trans (r_ret q1)), rfl, Tail.one (junk := []) (by rw [List.append_nil]) (low3 _)⟩
        · rw [decide_eq_false w0] at t1
          by_cases w1 : way = 1
          · have er : oneR T way = ((((pwR T).1 : Nat) : Int), (pwR T).2) := by
              unfold oneR
              rw [if_neg w0, if_pos w1]
            rw [er]
            rw [decide_eq_true w1] at t2
            obtain ⟨a1, a2⟩ := nxt_le (T := T) (m := ((12 : Nat) : Int)) (k := 5) hT (by decide) (by omega)
            obtain ⟨b1, b2⟩ := nxt_le (T := (nxt T ((12 : Nat) : Int)).2) (m := ((7 : Nat) : Int)) (k := 4) a1 (by decide) (by omega)
            have ra := nxt_range T hT (m := ((12 : Nat) : Int)) (by decide)
            have rb := nxt_range _ a1 (m := ((7 : Nat) : Int)) (by decide)
            let A := (nxt T ((12 : Nat) : Int)).1.toNat
            let TA := (nxt T ((12 : Nat) : Int)).2
            let Bn := (nxt TA ((7 : Nat) : Int)).1.toNat
            let TB := (nxt TA ((7 : Nat) : Int)).2
            have hA : A ≤ 12 := by show (nxt T ((12 : Nat) : Int)).1.toNat ≤ 12; omega
            have hB : Bn ≤ 12 := by show (nxt (nxt T ((12 : Nat) : Int)).2 ((7 : Nat) : Int)).1.toNat ≤ 12; omega
            have f1 : 1 * 2 ^ A ≤ 5 ^ 12 := by rw [Nat.one_mul]; exact pow_small (by decide) hA
            have f2 : 1 * 2 ^ A * 3 ^ Bn ≤ 5 ^ 12 * 5 ^ 12 := Nat.mul_le_mul f1 (pow_small (by decide) hB)
            obtain ⟨x1, p1⟩ := pw_run (j := j) (w := .int way) (f := 1) (p := 2) (m := 12) (x := none) (n0 := ce.length) hc hT (by omega) (by decide) (by decide) (by decide)
            obtain ⟨x2, p2⟩ := pw_run (j := j) (w := .int way) (f := 1 * 2 ^ A) (p := 3) (m := 7) (x := x1) (n0 := ce.length) (ce_set_get hc) a1 (by omega) (by decide) (by decide) (Nat.lt_of_le_of_lt f1 (by decide))
            rw [ce_set2] at p2
            obtain ⟨x3, p3⟩ := pw_run (j := j) (w := .int way) (f := 1 * 2 ^ A * 3 ^ Bn) (p := 5) (m := 4) (x := x2) (n0 := ce.length) (ce_set_get hc) b1 (by omega) (by decide) (by decide) (Nat.lt_of_le_of_lt f2 (by decide))
            rw [ce_set2] at p3
            have l0 : sSet 2 (dC (.int 1)) s0 = .nx (S6 j (.int way) (.int ((1 : Nat) : Int)) none none none ce ce.length) := r_set rc
            have lp : sFor (iL (dLst (aCons (dTup (aCons (dC (.int 2)) (aCons (dC (.int 12)) aNil))) (aCons (dTup (aCons (dC (.int 3)) (aCons (dC (.int 7)) aNil))) (aCons (dTup (aCons (dC (.int 5)) (aCons (dC (.int 4)) aNil))) aNil))))) (tgT [(tgN 3), (tgN 4)]) pwBody (S6 j (.int way) (.int ((1 : Nat) : Int)) none none none ce ce.length) = .nx (S6 j (.int way) (.int (((pwR T).1 : Nat) : Int)) (some (.int 5)) (some (.int 4)) x3 (ce.set j (.lst (pwR T).2.xs)) ce.length) := by
              refine (r_for (xs := [.tup [.int 2, .int 12], .tup [.int 3, .int 7], .tup [.int 5, .int 4]]) (r_iL_nl (r_lst (r_a3 (r_tup (r_a2 rc rc) (by decide)) (r_tup (r_a2 rc rc) (by decide)) (r_tup (r_a2 rc rc) (by decide))) (by decide)))).trans ?_
              exact (r_loop rfl p1).trans ((r_loop rfl p2).trans ((r_loop rfl p3).trans rfl))
            refine .inl ⟨_, (r_seq ((r_sif_f t1).trans rfl)).trans (r_seq_rt ((r_sif_t t2).trans ((r_seq l0).trans ((r_seq lp).trans (r_ret (r_var (i := 2) rfl)))))), rfl, Tail.one (junk := []) (by rw [List.append_nil]) (low3 _)⟩
          · rw [decide_eq_false w1] at t2
            have er : oneR T way = (if way % 2 = 0 then 1 + (nxt T (E20 - 1)).1 else E20 - 1 - (nxt (nxt T (E20 - 1)).2 5).1, (nxt (nxt T (E20 - 1)).2 5).2) := by
              unfold oneR
              rw [if_neg w0, if_neg w1]
            rw [er]
            obtain ⟨a1, a2⟩ := nxt_le (T := T) (m := E20 - 1) (k := 5) hT E20_ok.1 (by omega)
            have pe : ∀ s : S, dOp pSub (dOp pPow (dC (.int 10)) (dC (.int 20))) (dC (.int 1)) s = .ok (.int (E20 - 1)) s := fun s => i_sub (i_pow rc rc (by decide)) rc
            let s1 : S := ⟨s0.sl, ce.set j (.lst (nxt T (E20 - 1)).2.xs), ce.length⟩
            let s2 : S := ⟨s0.sl, ce.set j (.lst (nxt (nxt T (E20 - 1)).2 5).2.xs), ce.length⟩
            have q1 : dOp pAdd (dC (.int 1)) (dFz (dCall 2 m__law_next (aCons (dVar 0) (aCons (dOp pSub (dOp pPow (dC (.int 10)) (dC (.int 20))) (dC (.int 1))) aNil)))) s0 = .ok (.int (1 + (nxt T (E20 - 1)).1)) s1 := i_add rc (r_next (j := j) rfl (pe s0) hc ⟨hT, by omega, E20_ok.1, E20_ok.2.1⟩)
            have q2 : dOp pSub (dOp pSub (dOp pPow (dC (.int 10)) (dC (.int 20))) (dC (.int 1))) (dFz (dCall 2 m__law_next (aCons (dVar 0) (aCons (dC (.int 5)) aNil)))) s1 = .ok (.int (E20 - 1 - (nxt (nxt T (E20 - 1)).2 5).1)) s2 := by
              refine (i_sub (pe s1) (r_next (s := s1) (j := j) rfl rc (ce_set_get hc) ⟨a1, by omega, by decide, by decide⟩)).trans ?_
              show R.ok _ ⟨s0.sl, (ce.set j _).set j _, ce.length⟩ = _
              rw [ce_set2]
            have q3 := r_fz_nl (r_lst (r_a2 q1 q2) (show 2 ≤ 100000 by decide))
            have q4 : dOp pMod (dVar 1) (dC (.int 2)) s2 = .ok (.int (way % 2)) s2 := i_mod (r_var (i := 1) rfl) rc (by decide)
            have q5 := r_op (p2 := pIx) q3 q4
            refine .inl ⟨s2, (r_seq ((r_sif_f t1).trans rfl)).trans ((r_seq ((r_sif_f t2).trans rfl)).trans (r_ret (q5.trans ?_))), rfl, Tail.one (junk := []) (by rw [List.append_nil]) (low3 _)⟩
            have hm0 := Int.emod_nonneg way (by decide : (2 : Int) ≠ 0)
            have hm1 := Int.emod_lt_of_pos way (by decide : (0 : Int) < 2)
            by_cases h2 : way % 2 = 0
            · rw [if_pos h2, h2] <;> rfl
            · have h3 : way % 2 = 1 := by omega
              rw [if_neg h2, h3] <;> rfl
      · show DoesK ce _ (if TpOk T ∧ T.c + 10 < 2 ^ 60 ∧ 0 ≤ way then .ok (.int (oneR T way).1) (ce.set j (.lst (oneR T way).2.xs)) else .no)
        rw [if_neg hg]
        trivial
  · trivial
end K06
set_option maxRecDepth 100000
set_option maxHeartbeats 4000000
namespace K06
open PySem PySem.Spec PyProof.Rows L2 Dv
theorem oneR_ok {T : Tp} {way : Int} {k : Nat} (hT : TpOk T) (hc : T.c + (k + 3 : Nat) < 2 ^ 60) : TpOk (oneR T way).2 ∧ (oneR T way).2.c + (k : Nat) < 2 ^ 60 ∧ 1 ≤ (oneR T way).1 ∧ (oneR T way).1 < E20 := by
  have e20 := E20_ok.2.2
  unfold oneR
  by_cases w0 : way = 0
  · rw [if_pos w0]
    obtain ⟨a1, a2⟩ := nxt_le (T := T) (m := 12) (k := k) hT (by decide) (by omega)
    have r := nxt_range T hT (m := 12) (by decide)
    exact ⟨a1, a2, by show 1 ≤ 1 + (nxt T 12).1; omega, by show 1 + (nxt T 12).1 < E20; omega⟩
  · rw [if_neg w0]
    by_cases w1 : way = 1
    · rw [if_pos w1]
      obtain ⟨a1, a2⟩ := nxt_le (T := T) (m := ((12 : Nat) : Int)) (k := k + 2) hT (by decide) (by omega)
      obtain ⟨b1, b2⟩ := nxt_le (T := (nxt T ((12 : Nat) : Int)).2) (m := ((7 : Nat) : Int)) (k := k + 1) a1 (by decide) (by omega)
      obtain ⟨c1, c2⟩ := nxt_le (T := (nxt (nxt T ((12 : Nat) : Int)).2 ((7 : Nat) : Int)).2) (m := ((4 : Nat) : Int)) (k := k) b1 (by decide) (by omega)
      have ra := nxt_range T hT (m := ((12 : Nat) : Int)) (by decide)
      have rb := nxt_range _ a1 (m := ((7 : Nat) : Int)) (by decide)
      have rc := nxt_range _ b1 (m := ((4 : Nat) : Int)) (by decide)
      refine ⟨c1, c2, ?_, ?_⟩
      · show (1 : Int) ≤ ((1 * 2 ^ (nxt T ((12 : Nat) : Int)).1.toNat * 3 ^ (nxt (nxt T ((12 : Nat) : Int)).2 ((7 : Nat) : Int)).1.toNat * 5 ^ (nxt (nxt (nxt T ((12 : Nat) : Int)).2 ((7 : Nat) : Int)).2 ((4 : Nat) : Int)).1.toNat : Nat) : Int)
        have : 0 < 1 * 2 ^ (nxt T ((12 : Nat) : Int)).1.toNat * 3 ^ (nxt (nxt T ((12 : Nat) : Int)).2 ((7 : Nat) : Int)).1.toNat * 5 ^ (nxt (nxt (nxt T ((12 : Nat) : Int)).2 ((7 : Nat) : Int)).2 ((4 : Nat) : Int)).1.toNat :=
          Nat.mul_pos (Nat.mul_pos (Nat.mul_pos (by decide) (Nat.pow_pos (by decide))) (Nat.pow_pos (by decide))) (Nat.pow_pos (by decide))
        omega
      · show ((1 * 2 ^ (nxt T ((12 : Nat) : Int)).1.toNat * 3 ^ (nxt (nxt T ((12 : Nat) : Int)).2 ((7 : Nat) : Int)).1.toNat * 5 ^ (nxt (nxt (nxt T ((12 : Nat) : Int)).2 ((7 : Nat) : Int)).2 ((4 : Nat) : Int)).1.toNat : Nat) : Int) < E20
        have f1 : 1 * 2 ^ (nxt T ((12 : Nat) : Int)).1.toNat ≤ 2 ^ 12 := by
          rw [Nat.one_mul]
          exact Nat.pow_le_pow_right (by decide) (by omega)
        have f2 : 3 ^ (nxt (nxt T ((12 : Nat) : Int)).2 ((7 : Nat) : Int)).1.toNat ≤ 3 ^ 7 := Nat.pow_le_pow_right (by decide) (by omega)
        have f3 : 5 ^ (nxt (nxt (nxt T ((12 : Nat) : Int)).2 ((7 : Nat) : Int)).2 ((4 : Nat) : Int)).1.toNat ≤ 5 ^ 4 := Nat.pow_le_pow_right (by decide) (by omega)
        have f4 := Nat.mul_le_mul (Nat.mul_le_mul f1 f2) f3
        have f5 : 2 ^ 12 * 3 ^ 7 * 5 ^ 4 < 100000000000000000000 := by decide
        omega
    · rw [if_neg w1]
      obtain ⟨a1, a2⟩ := nxt_le (T := T) (m := E20 - 1) (k := k + 1) hT E20_ok.1 (by omega)
      obtain ⟨b1, b2⟩ := nxt_le (T := (nxt T (E20 - 1)).2) (m := 5) (k := k) a1 (by decide) (by omega)
      have ra := nxt_range T hT E20_ok.1
      have rb := nxt_range _ a1 (m := 5) (by decide)
      refine ⟨b1, b2, ?_, ?_⟩
      · show 1 ≤ (if way % 2 = 0 then 1 + (nxt T (E20 - 1)).1 else E20 - 1 - (nxt (nxt T (E20 - 1)).2 5).1)
        split <;> omega
      · show (if way % 2 = 0 then 1 + (nxt T (E20 - 1)).1 else E20 - 1 - (nxt (nxt T (E20 - 1)).2 5).1) < E20
        split <;> omega
/-- one more divisor -/
def stepR (way : Int) (p : Tp × List Int) : Tp × List Int :=
  let a := nxt p.1 4
  let b := oneR a.2 (if way = 4 then a.1 else way)
  (b.2, p.2 ++ [b.1])
def itR (way : Int) (p : Tp × List Int) : Nat → Tp × List Int
  | 0 => p
  | n + 1 => stepR way (itR way p n)
def rowsR (T : Tp) (most : Int) : Tp × List Int :=
  itR (nxt T 5).1 ((nxt (nxt T 5).2 (most + 1)).2, []) (nxt (nxt T 5).2 (most + 1)).1.toNat
theorem step_ok {way : Int} {p : Tp × List Int} {k : Nat} (hT : TpOk p.1) (hc : p.1.c + (k + 4 : Nat) < 2 ^ 60) (hf : ∀ x ∈ p.2, 1 ≤ x ∧ x < E20) :
    TpOk (stepR way p).1 ∧ (stepR way p).1.c + (k : Nat) < 2 ^ 60 ∧ (∀ x ∈ (stepR way p).2, 1 ≤ x ∧ x < E20) ∧ (stepR way p).2.length = p.2.length + 1 := by
  obtain ⟨a1, a2⟩ := nxt_le (T := p.1) (m := 4) (k := k + 3) hT (by decide) (by omega)
  obtain ⟨b1, b2, b3, b4⟩ := oneR_ok (T := (nxt p.1 4).2) (way := if way = 4 then (nxt p.1 4).1 else way) (k := k) a1 a2
  refine ⟨b1, b2, fun x hx => ?_, by show (p.2 ++ [_]).length = _; simp⟩
  rcases List.mem_append.mp hx with z | z
  · exact hf x z
  · rw [List.mem_singleton.mp z]
    exact ⟨b3, b4⟩
theorem it_ok {way : Int} {p : Tp × List Int} (hT : TpOk p.1) (hf : ∀ x ∈ p.2, 1 ≤ x ∧ x < E20) : ∀ (n : Nat) {k : Nat}, p.1.c + (k + 4 * n : Nat) < 2 ^ 60 →
    TpOk (itR way p n).1 ∧ (itR way p n).1.c + (k : Nat) < 2 ^ 60 ∧ (∀ x ∈ (itR way p n).2, 1 ≤ x ∧ x < E20) ∧ (itR way p n).2.length = p.2.length + n
  | 0, k, hc => ⟨hT, by show p.1.c + (k : Nat) < 2 ^ 60; omega, hf, rfl⟩
  | n + 1, k, hc => by
    obtain ⟨h1, h2, h3, h4⟩ := it_ok hT hf n (k := k + 4) (by omega)
    obtain ⟨g1, g2, g3, g4⟩ := step_ok (way := way) (k := k) h1 h2 h3
    exact ⟨g1, g2, g3, by show (stepR way (itR way p n)).2.length = _; omega⟩
section
variable {ce : List Cell} {j : Nat} {c c' d d' : Cell}
theorem jx (hj : j < ce.length) : ((ce.set j c) ++ [d])[j]? = some c := by
  rw [List.getElem?_append_left (by rw [List.length_set]; exact hj), List.getElem?_set_self hj]
theorem js (hj : j < ce.length) : ((ce.set j c) ++ [d]).set j c' = (ce.set j c') ++ [d] := by
  rw [List.set_append_left _ _ (by rw [List.length_set]; exact hj), ce_set2]
theorem kx : ((ce.set j c) ++ [d])[ce.length]? = some d := by
  have e : ce.length = (ce.set j c).length := by rw [List.length_set]
  rw [e]
  exact cell_last
theorem ks : ((ce.set j c) ++ [d]).set ce.length d' = (ce.set j c) ++ [d'] := by
  have e : ce.length = (ce.set j c).length := by rw [List.length_set]
  rw [e]
  exact set_last
end
theorem r_app {s s2 : S} {i k : Nat} {xs0 xs : List D} {d : D} {ga : DA} (h : s.sl[i]? = some (some (.rf k))) (hl : cellL s.ce[k]? = some xs0) (ha : ga s = .ok [d] s2) (h2 : cellL s2.ce[k]? = some xs) (hn : xs.length < 100000) :
    dMt isL mApp (dVar i) ga s = .ok .non ⟨s2.sl, s2.ce.set k (.lst (xs ++ [d])), s2.n0⟩ := by
  unfold dMt
  rw [r_var h]
  show (if isL s.ce (.rf k) = true then bindAR (ga s) fun ds s2 => moK s2 (mApp s2.ce (.rf k) ds) else .no) = _
  have e : isL s.ce (.rf k) = true := by
    show (cellL s.ce[k]?).isSome = true
    rw [hl] <;> rfl
  rw [if_pos e, ha]
  show moK s2 (match cellL s2.ce[k]? with
    | some xs => if xs.length < 100000 then .w k (.lst (xs ++ [d])) .non else .no
    | none => .no) = _
  rw [h2]
  show moK s2 (if xs.length < 100000 then .w k (.lst (xs ++ [d])) .non else .no) = _
  rw [if_pos hn] <;> rfl
theorem one_run {ce : List Cell} {j : Nat} {T : Tp} {way : Int} (hc : ce[j]? = some (.lst T.xs)) (h : TpOk T ∧ T.c + 10 < 2 ^ 60 ∧ 0 ≤ way) : m__law_one [.rf j, .int way] ce = .ok (.int (oneR T way).1) (ce.set j (.lst (oneR T way).2.xs)) := by
  show (match tpC ce[j]? with
    | some T => if TpOk T ∧ T.c + 10 < 2 ^ 60 ∧ 0 ≤ way then FR.ok (.int (oneR T way).1) (ce.set j (.lst (oneR T way).2.xs)) else .no
    | none => .no) = _
  rw [hc, tpC_of]
  show (if TpOk T ∧ T.c + 10 < 2 ^ 60 ∧ 0 ≤ way then FR.ok (.int (oneR T way).1) (ce.set j (.lst (oneR T way).2.xs)) else .no) = _
  rw [if_pos h]
end K06
set_option maxRecDepth 100000
set_option maxHeartbeats 4000000
namespace K06
open PySem PySem.Spec PyProof.Rows L2 Dv
def m__law_rows : Fn := fun ds ce => match ds with
  | [.rf j, .int most] => match tpC ce[j]? with
    | some T => if TpOk T ∧ T.c + 1000 < 2 ^ 60 ∧ 0 ≤ most ∧ most ≤ 60 then .nl ((sset (rowsR T most).2).map .int) (ce.set j (.lst (rowsR T most).1.xs)) else .no
    | none => .no
  | _ => .no
abbrev rowBody : DS := sDrop (dMt isL mApp (dVar 3) (aCons (dFz (dCall 2 m__law_one (aCons (dVar 0) (aCons (dOp pIx (dFz (dLst (aCons (dVar 2) (aCons (dFz (dCall 2 m__law_next (aCons (dVar 0) (aCons (dC (.int 4)) aNil)))) aNil)))) (dBi (b1 intD) (aCons (dOp pEq (dVar 2) (dC (.int 4))) aNil))) aNil)))) aNil))
theorem does_rows : Does 5 (D__law_rows m__law_next m__law_one) m__law_rows := by
  intro ds ce hl
  unfold m__law_rows
  split
  · rename_i j most
    cases e1 : tpC ce[j]? with
    | none => trivial
    | some T =>
      have hc := tpC_eq e1
      have hj : j < ce.length := (List.getElem?_eq_some_iff.mp hc).1
      by_cases hg : TpOk T ∧ T.c + 1000 < 2 ^ 60 ∧ 0 ≤ most ∧ most ≤ 60
      · show DoesK ce _ (if TpOk T ∧ T.c + 1000 < 2 ^ 60 ∧ 0 ≤ most ∧ most ≤ 60 then .nl ((sset (rowsR T most).2).map .int) (ce.set j (.lst (rowsR T most).1.xs)) else .no)
        rw [if_pos hg]
        obtain ⟨hT, hc1, hm0, hm1⟩ := hg
        have low3 : ∀ U : Tp, lowC ce.length (.lst U.xs) = true := fun U => rfl
        obtain ⟨a1, a2⟩ := nxt_le (T := T) (m := 5) (k := 900) hT (by decide) (by omega)
        obtain ⟨b1, b2⟩ := nxt_le (T := (nxt T 5).2) (m := most + 1) (k := 800) a1 (by omega) (by omega)
        have ra := nxt_range T hT (m := 5) (by decide)
        have rb := nxt_range _ a1 (m := most + 1) (by omega)
        generalize hA : nxt T 5 = A at *
        generalize hB : nxt A.2 (most + 1) = Bq at *
        obtain ⟨n, en⟩ : ∃ n : Nat, Bq.1 = (n : Nat) := ⟨Bq.1.toNat, by omega⟩
        have er : rowsR T most = itR A.1 (Bq.2, []) n := by
          unfold rowsR
          rw [hA, hB, en, Int.toNat_natCast]
        rw [er]
        let st : Nat → S := fun i => ⟨[some (.rf j), some (.int most), some (.int A.1), some (.rf ce.length), if i = 0 then none else some (.int ((i - 1 : Nat) : Int))], (ce.set j (.lst (itR A.1 (Bq.2, []) i).1.xs)) ++ [.lst ((itR A.1 (Bq.2, []) i).2.map .int)], ce.length⟩
        let s0 : S := initS 5 [.rf j, .int most] ce
        let s1 : S := ⟨[some (.rf j), some (.int most), some (.int A.1), some (.rf ce.length), none], (ce.set j (.lst A.2.xs)) ++ [.lst []], ce.length⟩
        have q1 : sPar2 2 3 (aCons (dFz (dCall 2 m__law_next (aCons (dVar 0) (aCons (dC (.int 5)) aNil)))) (aCons (dCe (dLst aNil)) aNil)) s0 = .nx s1 := by
          have h1 := r_next (s := s0) (j := j) (f := dC (.int 5)) rfl rc hc ⟨hT, by omega, by decide, by decide⟩
          rw [hA] at h1
          have h2 : dCe (dLst aNil) ⟨s0.sl, s0.ce.set j (.lst A.2.xs), s0.n0⟩ = .ok (.rf ce.length) ⟨s0.sl, (ce.set j (.lst A.2.xs)) ++ [.lst []], ce.length⟩ := by
            refine (r_ce_nl (r_lst rfl (by decide))).trans ?_
            show R.ok (.rf (ce.set j (.lst A.2.xs)).length) _ = _
            rw [List.length_set] <;> rfl
          exact r_par2 (r_a2 h1 h2)
        have bmm : bits (most + 1) < 8000 := Nat.lt_trans (bits_lt (k := 10) (by omega) (by omega) (by decide)) (by decide)
        have q2 : iA rng1 (aCons (dFz (dCall 2 m__law_next (aCons (dVar 0) (aCons (dOp pAdd (dVar 1) (dC (.int 1))) aNil)))) aNil) s1 = .ok (rngD 0 n) (st 0) := by
          have h1 := r_next (s := s1) (j := j) (T := A.2) (f := dOp pAdd (dVar 1) (dC (.int 1))) rfl (i_add (r_var (i := 1) rfl) rc) (jx hj) ⟨a1, by omega, by omega, bmm⟩
          rw [hB] at h1
          refine (r_iA (r_a1 h1) (xs := rngD 0 n) ?_).trans ?_
          · show (if Bq.1.natAbs ≤ 1000000000000 then some (rngD 0 Bq.1.toNat) else none) = _
            rw [en, if_pos (by omega), Int.toNat_natCast]
          · show RI.ok (rngD 0 n) ⟨s1.sl, ((ce.set j (Cell.lst A.2.xs)) ++ [Cell.lst []]).set j (Cell.lst Bq.2.xs), ce.length⟩ = _
            rw [js hj] <;> rfl
        have q3 := loop_run (t := tgN 4) (body := rowBody) st (rngD 0 n) 0 fun i d hd => by
          have hi : i < n := by
            have := (List.getElem?_eq_some_iff.mp hd).1
            rwa [rngD_len] at this
          have ed : d = .int ((i : Nat) : Int) := by
            have q : (rngD 0 n)[i]? = some (D.int (0 + (i : Nat))) := by simp [rngD, hi]
            rw [q] at hd
            rw [← Option.some.inj hd, Int.zero_add]
          subst ed
          rw [Nat.zero_add]
          refine ⟨_, rfl, .inl ?_⟩
          obtain ⟨g1, g2, g3, g4⟩ := it_ok (way := A.1) (p := (Bq.2, [])) b1 (fun x hx => by cases hx) i (k := 400) (by show Bq.2.c + (400 + 4 * i : Nat) < 2 ^ 60; omega)
          have el : (itR A.1 (Bq.2, []) (i + 1)) = stepR A.1 (itR A.1 (Bq.2, []) i) := rfl
          show rowBody (⟨[some (.rf j), some (.int most), some (.int A.1), some (.rf ce.length), some (.int ((i : Nat) : Int))], (ce.set j (Cell.lst (itR A.1 (Bq.2, []) i).1.xs)) ++ [Cell.lst ((itR A.1 (Bq.2, []) i).2.map .int)], ce.length⟩ : S) = O.nx (⟨[some (.rf j), some (.int most), some (.int A.1), some (.rf ce.length), if i + 1 = 0 then none else some (.int ((i + 1 - 1 : Nat) : Int))], (ce.set j (.lst (itR A.1 (Bq.2, []) (i + 1)).1.xs)) ++ [.lst ((itR A.1 (Bq.2, []) (i + 1)).2.map .int)], ce.length⟩ : S)
          rw [el, if_neg (by omega), Nat.add_sub_cancel]
          generalize itR A.1 (Bq.2, []) i = p at *
          obtain ⟨n1, n2⟩ := nxt_le (T := p.1) (m := 4) (k := 300) g1 (by decide) (by omega)
          have rn := nxt_range p.1 g1 (m := 4) (by decide)
          let u : S := ⟨[some (.rf j), some (.int most), some (.int A.1), some (.rf ce.length), some (.int ((i : Nat) : Int))], (ce.set j (.lst p.1.xs)) ++ [.lst (p.2.map .int)], ce.length⟩
          let u1 : S := ⟨u.sl, (ce.set j (.lst (nxt p.1 4).2.xs)) ++ [.lst (p.2.map .int)], ce.length⟩
          have h4 : dFz (dCall 2 m__law_next (aCons (dVar 0) (aCons (dC (.int 4)) aNil))) u = .ok (.int (nxt p.1 4).1) u1 := by
            refine (r_next (s := u) (j := j) (T := p.1) rfl rc (jx hj) ⟨g1, by omega, by decide, by decide⟩).trans ?_
            show R.ok _ ⟨u.sl, ((ce.set j (Cell.lst p.1.xs)) ++ [Cell.lst (p.2.map .int)]).set j _, ce.length⟩ = _
            rw [js hj]
          have h5 := r_fz_nl (r_lst (r_a2 (r_var (i := 2) (s := u) rfl) h4) (show 2 ≤ 100000 by decide))
          have h6 : dBi (Dv.b1 intD) (aCons (dOp pEq (dVar 2) (dC (.int 4))) aNil) u1 = .ok (.int (if decide (A.1 = 4) = true then 1 else 0)) u1 := (r_bi (r_a1 (i_eq (r_var (i := 2) rfl) rc))).trans rfl
          have h7 : dOp pIx (dFz (dLst (aCons (dVar 2) (aCons (dFz (dCall 2 m__law_next (aCons (dVar 0) (aCons (dC (.int 4)) aNil)))) aNil)))) (dBi (Dv.b1 intD) (aCons (dOp pEq (dVar 2) (dC (.int 4))) aNil)) u = .ok (.int (if A.1 = 4 then (nxt p.1 4).1 else A.1)) u1 := by
            refine (r_op h5 h6).trans ?_
            by_cases h : A.1 = 4
            · rw [decide_eq_true h, if_pos rfl, if_pos h] <;> rfl
            · rw [decide_eq_false h, if_neg (by decide), if_neg h] <;> rfl
          have hway : 0 ≤ (if A.1 = 4 then (nxt p.1 4).1 else A.1) := by split <;> omega
          have h8 : dFz (dCall 2 m__law_one (aCons (dVar 0) (aCons (dOp pIx (dFz (dLst (aCons (dVar 2) (aCons (dFz (dCall 2 m__law_next (aCons (dVar 0) (aCons (dC (.int 4)) aNil)))) aNil)))) (dBi (Dv.b1 intD) (aCons (dOp pEq (dVar 2) (dC (.int 4))) aNil))) aNil))) u = .ok (.int (oneR (nxt p.1 4).2 (if A.1 = 4 then (nxt p.1 4).1 else A.1)).1) ⟨u.sl, (ce.set j (.lst (oneR (nxt p.1 4).2 (if A.1 = 4 then (nxt p.1 4).1 else A.1)).2.xs)) ++ [.lst (p.2.map .int)], ce.length⟩ := by
            refine r_fz_ok ?_
            refine (r_call (r_a2 (r_var (i := 0) rfl) h7) rfl).trans ?_
            rw [one_run (T := (nxt p.1 4).2) (jx hj) ⟨n1, by omega, hway⟩]
            show R.ok _ ⟨u.sl, ((ce.set j (Cell.lst (nxt p.1 4).2.xs)) ++ [Cell.lst (p.2.map .int)]).set j _, ce.length⟩ = _
            rw [js hj]
          have h9 := r_app (i := 3) (k := ce.length) (xs0 := p.2.map .int) (xs := p.2.map .int) rfl (by show cellL ((ce.set j _) ++ [Cell.lst (p.2.map .int)])[ce.length]? = _; rw [kx] <;> rfl) (r_a1 h8) (by show cellL ((ce.set j _) ++ [Cell.lst (p.2.map .int)])[ce.length]? = _; rw [kx] <;> rfl) (by rw [List.length_map, g4]; show 0 + i < 100000; omega)
          refine (r_drop h9).trans ?_
          show O.nx ⟨_, ((ce.set j _) ++ [Cell.lst (p.2.map .int)]).set ce.length _, ce.length⟩ = _
          rw [ks]
          show O.nx ⟨_, _ ++ [Cell.lst (p.2.map .int ++ [.int _])], _⟩ = O.nx ⟨_, _ ++ [Cell.lst ((p.2 ++ [_]).map .int)], _⟩
          rw [List.map_append] <;> rfl
        rw [rngD_len, Nat.zero_add] at q3
        obtain ⟨g1, g2, g3, g4⟩ := it_ok (way := A.1) (p := (Bq.2, [])) b1 (fun x hx => by cases hx) n (k := 400) (by show Bq.2.c + (400 + 4 * n : Nat) < 2 ^ 60; omega)
        have q4 : dSortSet (dVar 3) (st n) = .nl ((sset (itR A.1 (Bq.2, []) n).2).map .int) (st n) := by
          unfold dSortSet
          rw [r_var (i := 3) (s := st n) rfl]
          show sortSetK (st n) (cellL ((ce.set j (.lst (itR A.1 (Bq.2, []) n).1.xs)) ++ [Cell.lst ((itR A.1 (Bq.2, []) n).2.map .int)])[ce.length]?) = _
          rw [kx]
          show (match intsD ((itR A.1 (Bq.2, []) n).2.map .int) with
            | some ns => if ns.length < 64 then R.nl ((sset ns).map .int) (st n) else .no
            | none => .no) = _
          rw [intsD_map]
          show (if (itR A.1 (Bq.2, []) n).2.length < 64 then R.nl ((sset (itR A.1 (Bq.2, []) n).2).map .int) (st n) else .no) = _
          rw [if_pos (by rw [g4]; show 0 + n < 64; omega)]
        exact ⟨st n, (r_seq q1).trans ((r_seq ((r_for q2).trans q3)).trans (r_ret_nl q4)), lowL_ints _ _, Tail.one rfl (low3 _)⟩
      · show DoesK ce _ (if TpOk T ∧ T.c + 1000 < 2 ^ 60 ∧ 0 ≤ most ∧ most ≤ 60 then .nl ((sset (rowsR T most).2).map .int) (ce.set j (.lst (rowsR T most).1.xs)) else .no)
        rw [if_neg hg]
        trivial
  · trivial
end K06
set_option maxRecDepth 100000
set_option maxHeartbeats 4000000
namespace K06
open PySem PySem.Spec PyProof.Rows L2 Dv
/-! the law's own greatest common divisor -/
def m__law_gcd : Fn := fun ds ce => match ds with
  | [.int x, .int y] => if 0 < x ∧ 0 ≤ y then .ok (.int (gcdI x y)) ce else .no
  | _ => .no
abbrev gC : DB := bTest (dOp pGt (dVar 1) (dC (.int 0)))
abbrev gB : DS := sPar2 0 1 (aCons (dVar 1) (aCons (dOp pMod (dVar 0) (dVar 1)) aNil))
theorem gcd_loop {ce : List Cell} {n0 : Nat} : ∀ (m : Nat) (x y : Int), 0 < x → 0 ≤ y → y.natAbs < m → ∃ k, wl gC gB k ⟨[some (.int x), some (.int y)], ce, n0⟩ = .nx ⟨[some (.int (gcdI x y)), some (.int 0)], ce, n0⟩
  | 0, _, _, _, _, h => absurd h (Nat.not_lt_zero _)
  | m + 1, x, y, hx, hy, h => by
    have cond : gC ⟨[some (.int x), some (.int y)], ce, n0⟩ = .ok (decide (0 < y)) ⟨[some (.int x), some (.int y)], ce, n0⟩ := r_test (i_gt (r_var rfl) rc)
    by_cases z : 0 < y
    · have hr := Int.emod_lt_of_pos x z
      have hr0 := Int.emod_nonneg x (by omega : y ≠ 0)
      obtain ⟨k, q⟩ := gcd_loop m y (x % y) z hr0 (by omega)
      refine ⟨k + 1, wl_t (cond.trans (by rw [decide_eq_true z])) (r_par2 (r_a2 (r_var rfl) (i_mod (r_var rfl) (r_var rfl) z))) ?_⟩
      have e : gcdI x y = gcdI y (x % y) := by
        unfold gcdI
        have e1 : (x % y).natAbs = x.natAbs % y.natAbs := by
          have h1 : ((x.natAbs : Nat) : Int) = x := by omega
          have h2 : ((y.natAbs : Nat) : Int) = y := by omega
          have h3 : x % y = ((x.natAbs % y.natAbs : Nat) : Int) := by rw [Int.natCast_emod, h1, h2]
          rw [h3, Int.natAbs_natCast]
        rw [e1, Nat.gcd_comm, Nat.gcd_rec, Nat.gcd_comm]
      rw [e]
      exact q
    · have y0 : y = 0 := by omega
      subst y0
      have e : gcdI x 0 = x := by
        unfold gcdI
        rw [Int.natAbs_zero, Nat.gcd_zero_right]
        omega
      rw [e]
      exact ⟨1, wl_f (cond.trans (by rw [decide_eq_false z]))⟩
theorem does_gcd : Does 2 D__law_gcd m__law_gcd := by
  intro ds ce hl
  unfold m__law_gcd
  split
  · rename_i x y
    by_cases hg : 0 < x ∧ 0 ≤ y
    · rw [if_pos hg]
      obtain ⟨k, q⟩ := gcd_loop (ce := ce) (n0 := ce.length) (y.natAbs + 1) x y hg.1 hg.2 (Nat.lt_succ_self _)
      exact .inl ⟨_, (r_seq (r_while k q (by intro z; cases z))).trans (r_ret (r_var rfl)), rfl, Tail.id rfl⟩
    · rw [if_neg hg]
      trivial
  · trivial
theorem gcd_run {x y : Int} (ce : List Cell) (h : 0 < x ∧ 0 ≤ y) : m__law_gcd [.int x, .int y] ce = .ok (.int (gcdI x y)) ce := by
  show (if 0 < x ∧ 0 ≤ y then FR.ok (.int (gcdI x y)) ce else .no) = _
  rw [if_pos h]
def incC : List (Int × Int) → Int → List (Int × Int)
  | [], n => [(n, 1)]
  | (k, b) :: r, n => if k = n then (k, b + 1) :: r else (k, b) :: incC r n
def dicC (kv : List (Int × Int)) : List (Key × D) := kv.map fun p => (Sum.inl p.1, D.int p.2)
def valC : List (Int × Int) → Int → Option Int
  | [], _ => none
  | (k, b) :: r, n => if k = n then some b else valC r n
theorem val_dicC (n : Int) : ∀ kv : List (Int × Int), valKD (dicC kv) (.inl n) = (valC kv n).map D.int
  | [] => rfl
  | (k, b) :: r => by
    have ih := val_dicC n r
    show (if (Sum.inl k : Key) = Sum.inl n then some (D.int b) else valKD (dicC r) (.inl n)) = _
    unfold valC
    by_cases h : k = n
    · rw [if_pos (inl_inj.mpr h), if_pos h] <;> rfl
    · rw [if_neg (fun z => h (inl_inj.mp z)), if_neg h, ih]
theorem valC_none {n : Int} : ∀ {kv : List (Int × Int)}, valC kv n = none → n ∉ kv.map (·.1)
  | [], _ => by simp
  | (k, b) :: r, h => by
    unfold valC at h
    by_cases e : k = n
    · rw [if_pos e] at h
      cases h
    · rw [if_neg e] at h
      rw [List.map_cons, List.mem_cons]
      rintro (z | z)
      · exact e z.symm
      · exact valC_none h z
theorem inc_none {n : Int} : ∀ {kv : List (Int × Int)}, valC kv n = none → incC kv n = kv ++ [(n, 1)]
  | [], _ => rfl
  | (k, b) :: r, h => by
    unfold valC at h
    unfold incC
    by_cases e : k = n
    · rw [if_pos e] at h
      cases h
    · rw [if_neg e] at h
      rw [if_neg e, inc_none h] <;> rfl
theorem map_freshC {n : Int} {d : D} : ∀ {kv : List (Int × Int)}, n ∉ kv.map (·.1) → (dicC kv).map (fun p => (p.1, if p.1 = (Sum.inl n : Key) then d else p.2)) = dicC kv
  | [], _ => rfl
  | (k, b) :: r, h => by
    rw [List.map_cons, List.mem_cons, not_or] at h
    have ih := map_freshC (d := d) h.2
    have e : ¬ (Sum.inl k : Key) = Sum.inl n := fun z => h.1 (inl_inj.mp z).symm
    show (Sum.inl k, if (Sum.inl k : Key) = Sum.inl n then d else D.int b) :: (dicC r).map _ = (Sum.inl k, D.int b) :: dicC r
    rw [if_neg e, ih]
theorem inc_some {n : Int} {x : Int} : ∀ {kv : List (Int × Int)}, (kv.map (·.1)).Nodup → valC kv n = some x → (dicC kv).map (fun p => (p.1, if p.1 = (Sum.inl n : Key) then D.int (x + 1) else p.2)) = dicC (incC kv n)
  | [], _, h => by cases h
  | (k, b) :: r, nd, h => by
    rw [List.map_cons, List.nodup_cons] at nd
    unfold valC at h
    unfold incC
    by_cases e : k = n
    · rw [if_pos e] at h
      cases h
      rw [if_pos e]
      subst e
      show (Sum.inl k, if (Sum.inl k : Key) = Sum.inl k then D.int (x + 1) else D.int x) :: (dicC r).map _ = (Sum.inl k, D.int (x + 1)) :: dicC r
      rw [if_pos rfl, map_freshC nd.1]
    · rw [if_neg e] at h
      rw [if_neg e]
      have ih := inc_some nd.2 h
      show (Sum.inl k, if (Sum.inl k : Key) = Sum.inl n then D.int (x + 1) else D.int b) :: (dicC r).map _ = (Sum.inl k, D.int b) :: dicC (incC r n)
      rw [if_neg (fun z => e (inl_inj.mp z)), ih]
theorem inc_keys {n : Int} : ∀ {kv : List (Int × Int)}, (incC kv n).map (·.1) = if n ∈ kv.map (·.1) then kv.map (·.1) else kv.map (·.1) ++ [n]
  | [] => rfl
  | (k, b) :: r => by
    have ih := inc_keys (n := n) (kv := r)
    unfold incC
    by_cases e : k = n
    · rw [if_pos e, if_pos (by rw [List.map_cons, e]; exact List.mem_cons_self)] <;> rfl
    · rw [if_neg e, List.map_cons, ih, List.map_cons]
      by_cases h : n ∈ r.map (·.1)
      · rw [if_pos h, if_pos (List.mem_cons_of_mem _ h)]
      · rw [if_neg h, if_neg (fun z => by
          rcases List.mem_cons.mp z with y | y
          · exact e y.symm
          · exact h y)] <;> rfl
theorem inc_nodup {n : Int} {kv : List (Int × Int)} (h : (kv.map (·.1)).Nodup) : ((incC kv n).map (·.1)).Nodup := by
  rw [inc_keys]
  by_cases e : n ∈ kv.map (·.1)
  · rw [if_pos e]
    exact h
  · rw [if_neg e, List.nodup_append]
    exact ⟨h, by simp, fun a ha b hb z => by
      have : b = n := by simpa using hb
      subst this
      subst z
      exact e ha⟩
theorem inc_len {n : Int} : ∀ {kv : List (Int × Int)}, (incC kv n).length ≤ kv.length + 1
  | [] => Nat.le_refl _
  | (k, b) :: r => by
    have ih := inc_len (n := n) (kv := r)
    unfold incC
    split
    · simp
    · simpa using ih
def odC (ns : List Int) : List (Int × Int) := ns.foldl incC []
theorem odC_snoc (ns : List Int) (n : Int) : odC (ns ++ [n]) = incC (odC ns) n := by
  unfold odC
  rw [List.foldl_append] <;> rfl
theorem odC_nodup_len (ns : List Int) : ∀ i, ((odC (ns.take i)).map (·.1)).Nodup ∧ (odC (ns.take i)).length ≤ i
  | 0 => ⟨List.nodup_nil, Nat.le_refl _⟩
  | i + 1 => by
    obtain ⟨h1, h2⟩ := odC_nodup_len ns i
    cases e : ns[i]? with
    | none =>
      have : ns.take (i + 1) = ns.take i := by rw [List.take_add_one, e]; simp
      rw [this]
      exact ⟨h1, by omega⟩
    | some n =>
      have : ns.take (i + 1) = ns.take i ++ [n] := by rw [List.take_add_one, e] <;> rfl
      rw [this, odC_snoc]
      exact ⟨inc_nodup h1, Nat.le_trans inc_len (by omega)⟩
theorem put_dicC {kv : List (Int × Int)} {n : Int} (nd : (kv.map (·.1)).Nodup) : putKD (dicC kv) (.inl n) (.int ((valC kv n).getD 0 + 1)) = dicC (incC kv n) := by
  unfold putKD
  rw [val_dicC]
  cases e : valC kv n with
  | none =>
    rw [inc_none e]
    show dicC kv ++ [(Sum.inl n, D.int 1)] = dicC (kv ++ [(n, 1)])
    unfold dicC
    rw [List.map_append] <;> rfl
  | some x => exact inc_some nd e

def oddC (p : Int × Int) : Int × Bool := (p.1, decide (p.2 % 2 = 1))
theorem inc_tog (n : Int) : ∀ kv : List (Int × Int), (incC kv n).map oddC = togB (kv.map oddC) n
  | [] => rfl
  | (k, c) :: r => by
    have ih := inc_tog n r
    unfold incC
    rw [List.map_cons]
    show _ = togB ((k, decide (c % 2 = 1)) :: r.map oddC) n
    unfold togB
    by_cases e : k = n
    · rw [if_pos e, if_pos e, List.map_cons]
      show (k, decide ((c + 1) % 2 = 1)) :: _ = (k, !decide (c % 2 = 1)) :: _
      by_cases h : c % 2 = 1
      · rw [decide_eq_true h, decide_eq_false (by omega)] <;> rfl
      · rw [decide_eq_false h, decide_eq_true (by omega)] <;> rfl
    · rw [if_neg e, if_neg e, List.map_cons, ih] <;> rfl
theorem od_map : ∀ (ns : List Int) (kv : List (Int × Int)), (ns.foldl incC kv).map oddC = ns.foldl togB (kv.map oddC)
  | [], _ => rfl
  | n :: r, kv => by rw [List.foldl_cons, List.foldl_cons, od_map r, inc_tog]
theorem valC_mem {n x : Int} : ∀ {kv : List (Int × Int)}, (kv.map (·.1)).Nodup → (n, x) ∈ kv → valC kv n = some x
  | (k, c) :: r, nd, h => by
    rw [List.map_cons, List.nodup_cons] at nd
    unfold valC
    rcases List.mem_cons.mp h with z | z
    · cases z
      rw [if_pos rfl]
    · have hk : n ∈ r.map (·.1) := List.mem_map.mpr ⟨_, z, rfl⟩
      rw [if_neg (fun e => nd.1 (by rw [e]; exact hk))]
      exact valC_mem nd.2 z
theorem valC_of {n x : Int} : ∀ {kv : List (Int × Int)}, valC kv n = some x → (n, x) ∈ kv
  | (k, c) :: r, h => by
    unfold valC at h
    by_cases e : k = n
    · rw [if_pos e] at h
      cases h
      rw [e]
      exact List.mem_cons_self
    · rw [if_neg e] at h
      exact List.mem_cons_of_mem _ (valC_of h)
/-- whether a key's count is odd -/
def oddAt (kv : List (Int × Int)) (n : Int) : Bool := decide ((valC kv n).getD 0 % 2 = 1)
theorem odd_keys (ns : List Int) : (isortI ((odC ns).map (·.1))).filter (oddAt (odC ns)) = oddI ns := by
  have nd := (odC_nodup_len ns ns.length).1
  rw [List.take_length] at nd
  have hs := isortI_sorted ((odC ns).map (·.1))
  have hn : (isortI ((odC ns).map (·.1))).Nodup := (isortI_perm _).nodup_iff.mpr nd
  have h5 : (isortI ((odC ns).map (·.1))).Pairwise (fun a b => a ≤ b ∧ a ≠ b) := List.Pairwise.and hs hn
  have h6 : (isortI ((odC ns).map (·.1))).Pairwise (· < ·) := h5.imp fun ⟨x, y⟩ => by omega
  have eo : odB ns = (odC ns).map oddC := (od_map ns []).symm
  refine asc_one (h6.sublist List.filter_sublist) (odd_asc ns) fun x => ?_
  rw [List.mem_filter, (isortI_perm _).mem_iff]
  unfold oddI
  rw [(isortI_perm _).mem_iff, eo]
  constructor
  · rintro ⟨hx, ho⟩
    obtain ⟨⟨k, c⟩, hp, rfl⟩ := List.mem_map.mp hx
    unfold oddAt at ho
    rw [valC_mem nd hp] at ho
    exact List.mem_map.mpr ⟨(k, decide (c % 2 = 1)), List.mem_filter.mpr ⟨List.mem_map.mpr ⟨(k, c), hp, rfl⟩, ho⟩, rfl⟩
  · intro hx
    obtain ⟨⟨k, b⟩, hp, rfl⟩ := List.mem_map.mp hx
    obtain ⟨hp1, hp2⟩ := List.mem_filter.mp hp
    obtain ⟨⟨k2, c⟩, hq, e⟩ := List.mem_map.mp hp1
    cases e
    refine ⟨List.mem_map.mpr ⟨(_, c), hq, rfl⟩, ?_⟩
    unfold oddAt
    rw [valC_mem nd hq]
    exact hp2
end K06
set_option maxRecDepth 100000
set_option maxHeartbeats 4000000
namespace K06
open PySem PySem.Spec PyProof.Rows L2 Dv
/-! the law's own: numbers that come an odd number of times -/
def m__law_odd : Fn := fun ds ce => match ds with
  | [d] => match lstI d with
    | some ns => if ns.length < 100000 then .nl ((oddI ns).map .int) ce else .no
    | none => .no
  | _ => .no
def cntS (ns : List Int) (ce : List Cell) (i : Nat) : S := ⟨[some (lI ns), some (.rf ce.length), if i = 0 then none else (ns[i - 1]?).map .int], ce ++ [.dic (dicC (odC (ns.take i)))], ce.length⟩
abbrev cntB : DS := sPutD (dVar 1) (dVar 2) (dOp pAdd (dGetD (dVar 1) (dVar 2) (dC (.int 0))) (dC (.int 1)))
theorem get_cnt {x0 : Option D} {ce : List Cell} {kv : List (Int × Int)} {n : Int} {n0 : Nat} : dGetD (dVar 1) (dVar 2) (dC (.int 0)) ⟨[x0, some (.rf ce.length), some (.int n)], ce ++ [.dic (dicC kv)], n0⟩ = .ok (.int ((valC kv n).getD 0)) ⟨[x0, some (.rf ce.length), some (.int n)], ce ++ [.dic (dicC kv)], n0⟩ := by
  unfold dGetD
  show (if (cellD (ce ++ [Cell.dic (dicC kv)])[ce.length]?).isSome = true then _ else _) = _
  rw [cell_last]
  show (match cellD (ce ++ [Cell.dic (dicC kv)])[ce.length]?, some (Sum.inl n : Key) with
    | some kvs, some k => R.ok ((valKD kvs k).getD (.int 0)) _
    | _, _ => .no) = _
  rw [cell_last]
  show R.ok ((valKD (dicC kv) (.inl n)).getD (.int 0)) _ = _
  rw [val_dicC]
  cases valC kv n <;> rfl
theorem sub_cnt {x0 : Option D} {ce : List Cell} {kv : List (Int × Int)} {n c : Int} {n0 : Nat} (h : valC kv n = some c) : dSubD (dVar 1) (dVar 2) ⟨[x0, some (.rf ce.length), some (.int n)], ce ++ [.dic (dicC kv)], n0⟩ = .ok (.int c) ⟨[x0, some (.rf ce.length), some (.int n)], ce ++ [.dic (dicC kv)], n0⟩ := by
  unfold dSubD
  show (match cellD (ce ++ [Cell.dic (dicC kv)])[ce.length]?, some (Sum.inl n : Key) with
    | some kvs, some k => poK _ (match valKD kvs k with
      | some d => .v d
      | none => .no)
    | _, _ => .no) = _
  rw [cell_last]
  show poK _ (match valKD (dicC kv) (.inl n) with
      | some d => .v d
      | none => .no) = _
  rw [val_dicC, h] <;> rfl
theorem keys_dicC : ∀ kv : List (Int × Int), keysI (dicC kv) = some (kv.map (·.1))
  | [] => rfl
  | (k, c) :: r => by
    have ih := keys_dicC r
    show (keysI (dicC r)).map (k :: ·) = _
    rw [ih] <;> rfl
theorem does_odd : Does 3 D__law_odd m__law_odd := by
  intro ds ce hl
  unfold m__law_odd
  split
  · rename_i d
    cases e1 : lstI d with
    | none => trivial
    | some ns =>
      have ed := lstI_eq e1
      subst ed
      by_cases hg : ns.length < 100000
      · show DoesK ce _ (if ns.length < 100000 then .nl ((oddI ns).map .int) ce else .no)
        rw [if_pos hg]
        have l0 : (sSet 1 dNewD) (initS 3 [lI ns] ce) = .nx (cntS ns ce 0) := rfl
        have l1 : (sFor (iL (dVar 0)) (tgN 2) cntB) (cntS ns ce 0) = .nx (cntS ns ce ns.length) := by
          rw [r_for (r_iL (rfl : dVar 0 (cntS ns ce 0) = .ok (lI ns) (cntS ns ce 0)))]
          have := loop_run (t := tgN 2) (body := cntB) (cntS ns ce) (ns.map D.int) 0 fun j d hd => by
            rw [List.getElem?_map] at hd
            cases en : ns[j]? with
            | none =>
              rw [en] at hd
              cases hd
            | some n =>
              rw [en] at hd
              cases hd
              obtain ⟨nd, hle⟩ := odC_nodup_len ns j
              have hj : j < ns.length := (List.getElem?_eq_some_iff.mp en).1
              have et : ns.take (j + 1) = ns.take j ++ [n] := by rw [List.take_add_one, en] <;> rfl
              refine ⟨⟨[some (lI ns), some (.rf ce.length), some (.int n)], ce ++ [.dic (dicC (odC (ns.take j)))], ce.length⟩, by rw [Nat.zero_add] <;> rfl, .inl ?_⟩
              unfold cntB sPutD
              rw [i_add get_cnt rc]
              show putK' _ (.int ((valC (odC (ns.take j)) n).getD 0 + 1)) (.rf ce.length) (.int n) = _
              unfold putK'
              rw [Nat.zero_add]
              show (match cellD (ce ++ [Cell.dic (dicC (odC (ns.take j)))])[ce.length]?, some (Sum.inl n : Key) with
                | some kvs, some k => if kvs.length < 100000 then O.nx ⟨_, (ce ++ [Cell.dic (dicC (odC (ns.take j)))]).set ce.length (.dic (putKD kvs k _)), _⟩ else .no
                | _, _ => .no) = _
              rw [cell_last]
              show (if (dicC (odC (ns.take j))).length < 100000 then O.nx ⟨_, (ce ++ [Cell.dic (dicC (odC (ns.take j)))]).set ce.length (.dic (putKD (dicC (odC (ns.take j))) (.inl n) _)), _⟩ else .no) = _
              rw [if_pos (by unfold dicC; rw [List.length_map]; omega), set_last, put_dicC nd, ← odC_snoc, ← et]
              show O.nx ⟨[some (lI ns), some (.rf ce.length), some (.int n)], _, _⟩ = O.nx ⟨[some (lI ns), some (.rf ce.length), if j + 1 = 0 then none else (ns[j + 1 - 1]?).map .int], _, _⟩
              rw [if_neg (by omega), Nat.add_sub_cancel, en] <;> rfl
          rw [List.length_map, Nat.zero_add] at this
          exact this
        let s1 := cntS ns ce ns.length
        have nd := (odC_nodup_len ns ns.length).1
        have hle := (odC_nodup_len ns ns.length).2
        have ht : ns.take ns.length = ns := List.take_length
        have ec : s1.ce = ce ++ [.dic (dicC (odC ns))] := by
          show ce ++ [Cell.dic (dicC (odC (ns.take ns.length)))] = _
          rw [ht]
        rw [ht] at nd hle
        have l2 : dBi (b1 srtD) (aCons (dVar 1) aNil) s1 = .nl ((isortI ((odC ns).map (·.1))).map .int) s1 := by
          rw [r_bi (r_a1 (r_var (i := 1) rfl))]
          show poK s1 (match cellD s1.ce[ce.length]? with
            | some kvs => srtK (keysI kvs)
            | none => .no) = _
          rw [ec, cell_last]
          show poK s1 (srtK (keysI (dicC (odC ns)))) = _
          rw [keys_dicC]
          show poK s1 (if ((odC ns).map (·.1)).length ≤ 100000 then Po.l ((isortI ((odC ns).map (·.1))).map .int) else .no) = _
          rw [if_pos (by rw [List.length_map]; omega)] <;> rfl
        have l3 : dComp (iL (dBi (b1 srtD) (aCons (dVar 1) aNil))) (tgN 2) [2] (bTest (dOp pEq (dOp pMod (dSubD (dVar 1) (dVar 2)) (dC (.int 2))) (dC (.int 1)))) (dVar 2) s1 = .nl ((oddI ns).map .int) s1 := by
          rw [r_comp (r_iL_nl l2), compL_pure (fun d => match d with
            | .int n => oddAt (odC ns) n
            | _ => false) id rfl _ _ (fun d hd => ?_) ?_]
          · rw [List.nil_append, List.map_id, List.filter_map, ← odd_keys ns] <;> rfl
          · have := (isortI_perm ((odC ns).map (·.1))).length_eq
            rw [List.length_map] at this
            rw [List.length_map, this, List.length_nil]
            omega
          · obtain ⟨n, hn, rfl⟩ := List.mem_map.mp hd
            have hk : n ∈ (odC ns).map (·.1) := (isortI_perm _).mem_iff.mp hn
            obtain ⟨⟨k, c⟩, hp, rfl⟩ := List.mem_map.mp hk
            have hv := valC_mem nd hp
            refine ⟨⟨[some (lI ns), some (.rf ce.length), some (.int k)], s1.ce, s1.ce.length⟩, (by rfl), ⟨[some (lI ns), some (.rf ce.length), some (.int k)], s1.ce, s1.ce.length⟩, ?_, rfl, fun _ => ⟨_, r_var rfl, rfl⟩⟩
            rw [ec]
            refine r_test ((i_eq (i_mod (sub_cnt hv) rc (by decide)) rc).trans ?_)
            show R.ok (.bl (decide (c % 2 = 1))) _ = R.ok (.bl (oddAt (odC ns) k)) _
            unfold oddAt
            rw [hv] <;> rfl
        exact ⟨s1, (r_seq l0).trans ((r_seq l1).trans (r_ret_nl l3)), lowL_ints _ _, Tail.same rfl⟩
      · show DoesK ce _ (if ns.length < 100000 then .nl ((oddI ns).map .int) ce else .no)
        rw [if_neg hg]
        trivial
  · trivial
theorem lodd_run (ns : List Int) (ce : List Cell) (h : ns.length < 100000) : m__law_odd [lI ns] ce = .nl ((oddI ns).map .int) ce := by
  show (match lstI (lI ns) with
    | some ns => if ns.length < 100000 then FR.nl ((oddI ns).map .int) ce else .no
    | none => .no) = _
  rw [lstI_lI]
  show (if ns.length < 100000 then FR.nl ((oddI ns).map .int) ce else .no) = _
  rw [if_pos h]
end K06
set_option maxRecDepth 100000
set_option maxHeartbeats 4000000
/-! k06: holds; scaled by what it was spread with -/
namespace K06
open PySem PySem.Spec PyProof.Rows L2 Dv
def m__law_holds : Fn := fun ds ce => match ds with
  | [d, .int n] => match lstI d with
    | some a => if posL a = true ∧ a.length ≤ 1000 then .ok (.bl (pr a n)) ce else .no
    | none => .no
  | _ => .no
theorem does_holds : Does 3 D__law_holds m__law_holds := by
  intro ds ce hl
  unfold m__law_holds
  split
  · rename_i d n
    cases e1 : lstI d with
    | none => trivial
    | some a =>
      have ed := lstI_eq e1
      subst ed
      show DoesK ce _ (if posL a = true ∧ a.length ≤ 1000 then .ok (.bl (pr a n)) ce else .no)
      by_cases hg : posL a = true ∧ a.length ≤ 1000
      · rw [if_pos hg]
        let s0 : S := initS 3 [lI a, .int n] ce
        have ec : dCompV 0 (tgN 2) [2] (bTest (dOp pEq (dOp pMod (dVar 1) (dVar 2)) (dC (.int 0)))) (dVar 2) s0 = .nl ((a.filter fun x => decide (n % x = 0)).map .int) s0 := by
          show compL gYes (tgN 2) [2] (bTest (dOp pEq (dOp pMod (dVar 1) (dVar 2)) (dC (.int 0)))) (dVar 2) (a.map D.int) [] s0 = _
          rw [compL_pu (fun d => match d with
            | .int x => decide (n % x = 0)
            | _ => false) id rfl (fun d hd => ?_) (by rw [List.length_map]; omega)]
          · rw [List.map_id, List.filter_map] <;> rfl
          · obtain ⟨x, hx, rfl⟩ := List.mem_map.mp hd
            have hp : 0 < x := of_decide_eq_true (List.all_eq_true.mp hg.1 x hx)
            exact ⟨⟨[some (lI a), some (.int n), some (.int x)], ce, ce.length⟩, rfl, rfl, r_test (i_eq (i_mod (r_var rfl) (r_var rfl) hp) rc), fun _ => r_var rfl⟩
        have el : dBi (b1 lenD) (aCons (dFz (dCompV 0 (tgN 2) [2] (bTest (dOp pEq (dOp pMod (dVar 1) (dVar 2)) (dC (.int 0)))) (dVar 2))) aNil) s0 = .ok (.int (((a.filter fun x => decide (n % x = 0)).length : Nat) : Int)) s0 := by
          rw [r_bi (r_a1 (r_fz_nl ec))]
          show R.ok (.int ((((a.filter fun x => decide (n % x = 0)).map D.int).length : Nat) : Int)) s0 = _
          rw [List.length_map]
        refine .inl ⟨s0, r_ret ((i_eq (i_mod el rc (by decide)) rc).trans ?_), rfl, Tail.id rfl⟩
        rw [← par_pr] <;> rfl
      · rw [if_neg hg]
        trivial
  · trivial
theorem holds_run {a : List Int} {n : Int} (ce : List Cell) (h : posL a = true ∧ a.length ≤ 1000) : m__law_holds [lI a, .int n] ce = .ok (.bl (pr a n)) ce := by
  show (match lstI (lI a) with
    | some a => if posL a = true ∧ a.length ≤ 1000 then FR.ok (.bl (pr a n)) ce else .no
    | none => .no) = _
  rw [lstI_lI]
  show (if posL a = true ∧ a.length ≤ 1000 then FR.ok (.bl (pr a n)) ce else .no) = _
  rw [if_pos h]
theorem odd_id {a : List Int} (h : Fm a) : oddI a = a := fm_one (fm_odd h.pos) h fun n _ => pr_odd a n
theorem unscale {d f : Int} (hf : 1 ≤ f) : d * f / gcdI (d * f) f = d := by
  have e : gcdI (d * f) f = f := by
    unfold gcdI
    rw [Int.natAbs_mul, Nat.gcd_mul_left_left]
    omega
  rw [e]
  exact Int.mul_ediv_cancel d (by omega)
theorem back_scaled {a : List Int} {f : Int} (hf : 1 ≤ f) : ((a.map fun d => d * f).map fun d => d / gcdI d f) = a := by
  rw [List.map_map]
  have e : ((fun d => d / gcdI d f) ∘ fun d => d * f) = id := funext fun d => unscale hf
  rw [e, List.map_id]
theorem fm_spread {a : List Int} {f : Int} (h : Fm a) (hf : 1 ≤ f) : Fm (a.map fun d => d * f) := by
  refine ⟨fun x hx => ?_, List.Pairwise.map _ (fun x y hxy => ?_) h.asc⟩
  · obtain ⟨d, hd, rfl⟩ := List.mem_map.mp hx
    exact Int.mul_pos (h.pos d hd) (by omega)
  · exact Int.mul_lt_mul_of_pos_right hxy (by omega)
theorem spread_back {a : List Int} {f : Int} (h : Fm a) (hf : 1 ≤ f) : oddI ((a.map fun d => d * f).map fun d => d / gcdI d f) = a := by
  rw [back_scaled hf, odd_id h]
theorem pr_spread_at {a : List Int} {f n : Int} (hf : 1 ≤ f) : pr (a.map fun d => d * f) (n * f) = pr a n := by
  rw [pr_spread (n * f) hf a, Int.mul_emod_left, Int.mul_ediv_cancel n (by omega), decide_eq_true rfl, Bool.true_and]
theorem spread_twice (a : List Int) (f g : Int) : ((a.map fun d => d * f).map fun d => d * g) = a.map fun d => d * (f * g) := by
  rw [List.map_map]
  refine List.map_congr_left fun d _ => ?_
  exact Int.mul_assoc d f g
end K06
set_option maxRecDepth 100000
set_option maxHeartbeats 4000000
/-! k06: a number against a factor -/
namespace K06
open PySem PySem.Spec PyProof.Rows L2 Dv
section
variable {s : S} {f g : DE} {i : Nat}
theorem eqO_run {s : S} {f g : DE} {a b : List Int} (hf : f s = .ok (fo a) s) (hg : g s = .ok (fo b) s) : dEqO 0 2 m_form_eq f g s = .ok (.bl (decide (a = b))) s := by
  unfold dEqO
  rw [hf]
  show bindR (g s) _ = _
  rw [hg]
  show frK s (match heldI (fo a), heldI (fo b) with
    | some a, some b => FR.ok (.bl (decide (a = b))) s.ce
    | _, _ => .no) = _
  rw [heldI_fo, heldI_fo] <;> rfl
theorem ne_ints (ce : List Cell) (a b : List Int) : pNe ce (lI a) (lI b) = .v (.bl (!decide (a = b))) := by
  unfold pNe
  have e : ∀ c, toPc ce (lI c) = some (.list (c.map .int)) := fun c => by
    show (toPs (c.map D.int)).map PyData.list = _
    rw [toPs_ints] <;> rfl
  rw [e, e]
  show (if SeqAt.shaped (.list (a.map .int)) = true ∧ SeqAt.shaped (.list (b.map .int)) = true then Po.v (.bl (!PyData.eqv (.list (a.map .int)) (.list (b.map .int)))) else .no) = _
  rw [if_pos ⟨shaped_ints a, shaped_ints b⟩]
  unfold PyData.eqv
  rw [eqv_ints]
theorem prop_of {s : S} {f : DE} {a : List Int} (h : f s = .ok (fo a) s) : dFz (dProp 0 1 m_form_divisors f) s = .ok (lI a) s := by
  refine r_fz_nl ?_
  unfold dProp
  rw [h]
  show noEr (frK s (match heldI (fo a) with
    | some a => FR.nl (a.map .int) s.ce
    | none => .no)) = _
  rw [heldI_fo] <;> rfl
end
theorem ne_bl (ce : List Cell) (x y : Bool) : pNe ce (.bl x) (.bl y) = .v (.bl (xor x y)) := by
  cases x <;> cases y <;> rfl
section
variable {s : S} {f g : DE}
theorem callo_run {L : List Int} {n : Int} (hf : f s = .ok (fo L) s) (hg : g s = .ok (.int n) s) (hn : 1 ≤ n) (hp : ∀ x ∈ L, 0 < x) (hl : L.length ≤ 100000) : dCallO 0 2 m_form_call f (aCons g aNil) s = .ok (.bl (pr L n)) s := by
  unfold dCallO
  rw [hf]
  show (if true = true then bindAR ((aCons g aNil) s) fun ds s2 => ownK 0 2 m_form_call s2 (fo L :: ds) (instF 0 s2.ce (fo L)) else .no) = _
  rw [if_pos rfl, r_a1 hg]
  show frK s (match heldI (fo L) with
    | some a => if 1 ≤ n ∧ posL a = true ∧ a.length ≤ 100000 then FR.ok (.bl (par a n)) s.ce else .no
    | none => .no) = _
  rw [heldI_fo]
  show frK s (if 1 ≤ n ∧ posL L = true ∧ L.length ≤ 100000 then FR.ok (.bl (par L n)) s.ce else .no) = _
  rw [if_pos ⟨hn, List.all_eq_true.mpr fun x hx => decide_eq_true (hp x hx), hl⟩, par_pr] <;> rfl
theorem k_run {a : List Int} (ce : List Cell) (h : good a = true) : k_form_init [lI a] ce = .ok [("_held", lI a)] := by
  show (match lstI (lI a) with
    | some a => if good a = true then FI.ok [("_held", lI a)] else .no
    | none => .no) = _
  rw [lstI_lI]
  show (if good a = true then FI.ok [("_held", lI a)] else .no) = _
  rw [if_pos h]
theorem list_run {l : List Int} (h : f s = .ok (lI l) s) : dFz (dBi (b1 listD) (aCons f aNil)) s = .ok (lI l) s := by
  refine r_fz_nl ?_
  rw [r_bi (r_a1 h)] <;> rfl
theorem form_run {l : List Int} (h : f s = .ok (lI l) s) (hg : good l = true) : dFz (dMake 0 2 k_form_init (aCons f aNil)) s = .ok (fo l) s := r_fz_ni (r_make (r_a1 h) rfl (k_run _ hg))
end

theorem quot_pos {d f : Int} (hd : 0 < d) (hf : 1 ≤ f) : 0 < d / gcdI d f := by
  have hg := gcdI_pos (i := d) hf
  have hdv : gcdI d f ∣ d := by
    unfold gcdI
    have e : ((Nat.gcd d.natAbs f.natAbs : Nat) : Int) ∣ ((d.natAbs : Nat) : Int) := Int.natCast_dvd_natCast.mpr (Nat.gcd_dvd_left _ _)
    have e2 : ((d.natAbs : Nat) : Int) = d := by omega
    rw [e2] at e
    exact e
  have hle := Int.le_of_dvd hd hdv
  exact Int.ediv_pos_of_pos_of_dvd hd (by omega) hdv
abbrev lS (a : List Int) (f : Int) : List Int := oddI (a.map fun d => d / gcdI d f)
abbrev mS (a : List Int) (f : Int) : List Int := a.map fun d => d * f
theorem fm_lS {a : List Int} {f : Int} (h : Fm a) (hf : 1 ≤ f) : Fm (lS a f) := fm_odd fun x hx => by
  obtain ⟨d, hd, rfl⟩ := List.mem_map.mp hx
  exact quot_pos (h.pos d hd) hf
theorem odd_len (ns : List Int) : (oddI ns).length ≤ ns.length := by
  unfold oddI
  rw [(isortI_perm _).length_eq, List.length_map]
  have h := (odB_nodup_len ns ns.length).2
  rw [List.take_length] at h
  exact Nat.le_trans (List.length_filter_le _ _) h
abbrev N10 (j : Nat) (a : List Int) (x3 x4 x5 x6 x7 x8 x9 : Option D) (ce : List Cell) (n0 : Nat) : S := ⟨[some (.rf j), some (lI a), some (fo a), x3, x4, x5, x6, x7, x8, x9], ce, n0⟩
noncomputable abbrev numB : DS := (sSeq (sIf (bOr (bTest (dOp pNe (dCallO 0 2 m_form_call (dVar 6) (aCons (dVar 9) aNil)) (dCallO 0 2 m_form_call (dVar 2) (aCons (dOp pMul (dVar 9) (dVar 5)) aNil)))) (bTest (dOp pNe (dCallO 0 2 m_form_call (dVar 6) (aCons (dVar 9) aNil)) (dFz (dCall 2 m__law_holds (aCons (dVar 1) (aCons (dOp pMul (dVar 9) (dVar 5)) aNil))))))) (sRet (dC (.bl false))) sNext) (sSeq (sIf (bTest (dOp pNe (dCallO 0 2 m_form_call (dVar 7) (aCons (dVar 9) aNil)) (dAnd (dOp pEq (dOp pMod (dVar 9) (dVar 5)) (dC (.int 0))) (dFz (dCall 2 m__law_holds (aCons (dVar 1) (aCons (dOp pDiv (dVar 9) (dVar 5)) aNil))))))) (sRet (dC (.bl false))) sNext) (sIf (bTest (dOp pNe (dCallO 0 2 m_form_call (dVar 7) (aCons (dOp pMul (dVar 9) (dVar 5)) aNil)) (dCallO 0 2 m_form_call (dVar 2) (aCons (dVar 9) aNil)))) (sRet (dC (.bl false))) sNext)))
theorem num_turn {j n0 : Nat} {a : List Int} {f n : Int} {x3 x4 x8 : Option D} {ce : List Cell} (h : Fm a) (hl : a.length ≤ 1000) (hf : 1 ≤ f) (hf2 : f < 2 ^ 1000) (hn : 1 ≤ n) (hn2 : n < 2 ^ 1000) :
    numB (N10 j a x3 x4 (some (.int f)) (some (fo (lS a f))) (some (fo (mS a f))) x8 (some (.int n)) ce n0) = .nx (N10 j a x3 x4 (some (.int f)) (some (fo (lS a f))) (some (fo (mS a f))) x8 (some (.int n)) ce n0) := by
  let s := N10 j a x3 x4 (some (.int f)) (some (fo (lS a f))) (some (fo (mS a f))) x8 (some (.int n)) ce n0
  have bf : bits f < 1000 := bits_lt (by omega) hf2 (by decide)
  have bn : bits n < 1000 := bits_lt (by omega) hn2 (by decide)
  have nf : 1 ≤ n * f := by
    have := Int.mul_pos (show 0 < n by omega) (show 0 < f by omega)
    omega
  have em : dOp pMul (dVar 9) (dVar 5) s = .ok (.int (n * f)) s := i_mul (r_var rfl) (r_var rfl) (by omega)
  have hL := odd_len (a.map fun d => d / gcdI d f)
  rw [List.length_map] at hL
  have c6 : dCallO 0 2 m_form_call (dVar 6) (aCons (dVar 9) aNil) s = .ok (.bl (pr (lS a f) n)) s := callo_run (r_var rfl) (r_var rfl) hn (fm_lS h hf).pos (Nat.le_trans hL (by omega))
  have e6 : pr (lS a f) n = pr a (n * f) := by rw [pr_odd, pr_scaled n hf h.pos]
  have c2 : dCallO 0 2 m_form_call (dVar 2) (aCons (dOp pMul (dVar 9) (dVar 5)) aNil) s = .ok (.bl (pr a (n * f))) s := callo_run (r_var rfl) em nf h.pos (by omega)
  have pl : posL a = true := List.all_eq_true.mpr fun x hx => decide_eq_true (h.pos x hx)
  have ch : dFz (dCall 2 m__law_holds (aCons (dVar 1) (aCons (dOp pMul (dVar 9) (dVar 5)) aNil))) s = .ok (.bl (pr a (n * f))) s := r_fz_ok (r_cok (r_a2 (r_var rfl) em) (holds_run ce ⟨pl, hl⟩) rfl)
  have fmM := fm_spread h hf
  have hM : (mS a f).length ≤ 100000 := by
    rw [List.length_map]
    omega
  have c7 : dCallO 0 2 m_form_call (dVar 7) (aCons (dVar 9) aNil) s = .ok (.bl (pr (mS a f) n)) s := callo_run (r_var rfl) (r_var rfl) hn fmM.pos hM
  have c7f : dCallO 0 2 m_form_call (dVar 7) (aCons (dOp pMul (dVar 9) (dVar 5)) aNil) s = .ok (.bl (pr (mS a f) (n * f))) s := callo_run (r_var rfl) em nf fmM.pos hM
  have c2n : dCallO 0 2 m_form_call (dVar 2) (aCons (dVar 9) aNil) s = .ok (.bl (pr a n)) s := callo_run (r_var rfl) (r_var rfl) hn h.pos (by omega)
  have t1 : bTest (dOp pNe (dCallO 0 2 m_form_call (dVar 6) (aCons (dVar 9) aNil)) (dCallO 0 2 m_form_call (dVar 2) (aCons (dOp pMul (dVar 9) (dVar 5)) aNil))) s = .ok false s :=
    r_test ((r_op c6 c2).trans (by rw [ne_bl, e6, Bool.xor_self] <;> rfl))
  have t2 : bTest (dOp pNe (dCallO 0 2 m_form_call (dVar 6) (aCons (dVar 9) aNil)) (dFz (dCall 2 m__law_holds (aCons (dVar 1) (aCons (dOp pMul (dVar 9) (dVar 5)) aNil))))) s = .ok false s :=
    r_test ((r_op c6 ch).trans (by rw [ne_bl, e6, Bool.xor_self] <;> rfl))
  have eA : dAnd (dOp pEq (dOp pMod (dVar 9) (dVar 5)) (dC (.int 0))) (dFz (dCall 2 m__law_holds (aCons (dVar 1) (aCons (dOp pDiv (dVar 9) (dVar 5)) aNil)))) s = .ok (.bl (pr (mS a f) n)) s := by
    have e0 : dOp pEq (dOp pMod (dVar 9) (dVar 5)) (dC (.int 0)) s = .ok (.bl (decide (n % f = 0))) s := i_eq (i_mod (r_var rfl) (r_var rfl) (by omega)) rc
    have e1 : dFz (dCall 2 m__law_holds (aCons (dVar 1) (aCons (dOp pDiv (dVar 9) (dVar 5)) aNil))) s = .ok (.bl (pr a (n / f))) s := r_fz_ok (r_cok (r_a2 (r_var rfl) (i_div (r_var rfl) (r_var rfl) (by omega) (by omega))) (holds_run ce ⟨pl, hl⟩) rfl)
    have e2 : pr (mS a f) n = (decide (n % f = 0) && pr a (n / f)) := pr_spread n hf a
    by_cases z : n % f = 0
    · rw [decide_eq_true z] at e0 e2
      rw [e2, Bool.true_and]
      exact (r_and_t e0).trans e1
    · rw [decide_eq_false z] at e0 e2
      rw [e2, Bool.false_and]
      exact r_and_f e0
  have t3 : bTest (dOp pNe (dCallO 0 2 m_form_call (dVar 7) (aCons (dVar 9) aNil)) (dAnd (dOp pEq (dOp pMod (dVar 9) (dVar 5)) (dC (.int 0))) (dFz (dCall 2 m__law_holds (aCons (dVar 1) (aCons (dOp pDiv (dVar 9) (dVar 5)) aNil)))))) s = .ok false s :=
    r_test ((r_op c7 eA).trans (by rw [ne_bl, Bool.xor_self] <;> rfl))
  have t4 : bTest (dOp pNe (dCallO 0 2 m_form_call (dVar 7) (aCons (dOp pMul (dVar 9) (dVar 5)) aNil)) (dCallO 0 2 m_form_call (dVar 2) (aCons (dVar 9) aNil))) s = .ok false s :=
    r_test ((r_op c7f c2n).trans (by rw [ne_bl, pr_spread_at hf, Bool.xor_self] <;> rfl))
  exact (r_seq ((r_sif_f ((r_bor_f t1).trans t2)).trans rfl)).trans ((r_seq ((r_sif_f t3).trans rfl)).trans ((r_sif_f t4).trans rfl))
end K06
set_option maxRecDepth 100000
set_option maxHeartbeats 4000000
/-! k06: a factor -/
namespace K06
open PySem PySem.Spec PyProof.Rows L2 Dv
section
variable {c : Nat → Option PyData}
theorem toPgs_ints : ∀ ns : List Int, toPgs c (ns.map D.int) = some (ns.map PyData.int)
  | [] => rfl
  | n :: r => by
    have ih := toPgs_ints r
    show (match some (PyData.int n), toPgs c (r.map D.int) with
      | some p, some ps => some (p :: ps)
      | _, _ => none) = _
    rw [ih] <;> rfl
theorem toPg_lI (ns : List Int) : toPg c (lI ns) = some (.list (ns.map .int)) := by
  show (toPgs c (ns.map D.int)).map PyData.list = _
  rw [toPgs_ints] <;> rfl
theorem toPgs_rows : ∀ L : List (List Int), toPgs c (L.map lI) = some (L.map fun l => .list (l.map .int))
  | [] => rfl
  | l :: r => by
    have ih := toPgs_rows r
    show (match toPg c (lI l), toPgs c (r.map lI) with
      | some p, some ps => some (p :: ps)
      | _, _ => none) = _
    rw [ih, toPg_lI] <;> rfl
theorem toPg_rows (L : List (List Int)) : toPg c (.lst (L.map lI)) = some (.list (L.map fun l => .list (l.map .int))) := by
  show (toPgs c (L.map lI)).map PyData.list = _
  rw [toPgs_rows] <;> rfl
end
abbrev pR (L : List (List Int)) : PyData := .list (L.map fun l => .list (l.map .int))
/-- rows that repr takes -/
def small (L : List (List Int)) : Prop := L.length ≤ 10 ∧ ∀ l ∈ L, l.length ≤ 200 ∧ ∀ x ∈ l, x.natAbs < 2 ^ 900
theorem log_of {n : Nat} (h : n < 2 ^ 900) : n.log2 < 1920 := by
  by_cases z : n = 0
  · subst z
    rw [Nat.log2_zero]
    decide
  · exact (Nat.log2_lt z).mpr (Nat.lt_of_lt_of_le h (Nat.pow_le_pow_right (by decide) (by decide)))
theorem sh_ints : ∀ l : List Int, (∀ x ∈ l, x.natAbs < 2 ^ 900) → PyData.showableAll (l.map .int) = true
  | [], _ => rfl
  | x :: r, h => by
    have ih := sh_ints r fun y hy => h y (List.mem_cons_of_mem _ hy)
    show (decide (x.natAbs.log2 < 1920) && PyData.showableAll (r.map .int)) = true
    rw [ih, decide_eq_true (log_of (h x List.mem_cons_self))] <;> rfl
theorem nd_ints : ∀ l : List Int, PyData.hasDictAll (l.map .int) = false
  | [] => rfl
  | x :: r => nd_ints r
theorem dp_ints : ∀ l : List Int, PyData.depthAll (l.map .int) = 0
  | [] => rfl
  | x :: r => by
    have ih := dp_ints r
    show max 0 (PyData.depthAll (r.map .int)) = 0
    rw [ih] <;> rfl
theorem sh_rows : ∀ L : List (List Int), (∀ l ∈ L, ∀ x ∈ l, x.natAbs < 2 ^ 900) → PyData.showableAll (L.map fun l => .list (l.map .int)) = true
  | [], _ => rfl
  | l :: r, h => by
    have ih := sh_rows r fun y hy => h y (List.mem_cons_of_mem _ hy)
    show (PyData.showableAll (l.map .int) && PyData.showableAll (r.map fun l => .list (l.map .int))) = true
    rw [ih, sh_ints l (h l List.mem_cons_self)] <;> rfl
theorem nd_rows : ∀ L : List (List Int), PyData.hasDictAll (L.map fun l => .list (l.map .int)) = false
  | [] => rfl
  | l :: r => by
    have ih := nd_rows r
    show (PyData.hasDictAll (l.map .int) || PyData.hasDictAll (r.map fun l => .list (l.map .int))) = false
    rw [ih, nd_ints] <;> rfl
theorem dp_rows : ∀ L : List (List Int), PyData.depthAll (L.map fun l => .list (l.map .int)) ≤ 1
  | [] => by decide
  | l :: r => by
    have ih := dp_rows r
    show max (PyData.depthAll (l.map .int) + 1) (PyData.depthAll (r.map fun l => .list (l.map .int))) ≤ 1
    rw [dp_ints]
    omega
theorem len_int {x : Int} (h : x.natAbs < 2 ^ 900) : (PyData.shown (.int x)).length ≤ 301 := by
  have e := int_text_length_le10 (a := x) (k := 300) (by decide) (Nat.lt_of_lt_of_le h (by decide +kernel))
  show (Str.ofString (toString x)).length ≤ 301
  rw [PySem.ofString_length]
  exact e
theorem len_ints : ∀ l : List Int, (∀ x ∈ l, x.natAbs < 2 ^ 900) → ((PyData.shownAll (l.map .int)).map (·.length)).sum ≤ 301 * l.length ∧ (PyData.shownAll (l.map .int)).length = l.length
  | [], _ => ⟨Nat.le_refl _, rfl⟩
  | x :: r, h => by
    obtain ⟨i1, i2⟩ := len_ints r fun y hy => h y (List.mem_cons_of_mem _ hy)
    have e := len_int (h x List.mem_cons_self)
    rw [List.map_cons, PyData.shownAll_cons, List.map_cons, List.sum_cons, List.length_cons, List.length_cons, i2]
    exact ⟨by omega, rfl⟩
theorem len_row {l : List Int} (h1 : l.length ≤ 200) (h : ∀ x ∈ l, x.natAbs < 2 ^ 900) : (PyData.shown (.list (l.map .int))).length ≤ 61000 := by
  obtain ⟨i1, i2⟩ := len_ints l h
  have e := listText_len_le (PyData.shownAll (l.map .int))
  have e2 : PyData.shown (.list (l.map .int)) = listText (PyData.shownAll (l.map .int)) := by simp only [PyData.shown]
  rw [e2]
  omega
theorem len_rows : ∀ L : List (List Int), (∀ l ∈ L, l.length ≤ 200 ∧ ∀ x ∈ l, x.natAbs < 2 ^ 900) → ((PyData.shownAll (L.map fun l => .list (l.map .int))).map (·.length)).sum ≤ 61000 * L.length ∧ (PyData.shownAll (L.map fun l => .list (l.map .int))).length = L.length
  | [], _ => ⟨Nat.le_refl _, rfl⟩
  | l :: r, h => by
    obtain ⟨i1, i2⟩ := len_rows r fun y hy => h y (List.mem_cons_of_mem _ hy)
    have h0 := h l List.mem_cons_self
    have e := len_row h0.1 h0.2
    rw [List.map_cons, PyData.shownAll_cons, List.map_cons, List.sum_cons, List.length_cons, List.length_cons, i2]
    exact ⟨by omega, rfl⟩
theorem rp_rows {L : List (List Int)} (h : small L) : rpOk (pR L) := by
  refine ⟨?_, ?_, ?_, ?_⟩
  · show PyData.showableAll (L.map fun l => .list (l.map .int)) = true
    exact sh_rows L fun l hl => (h.2 l hl).2
  · exact nd_rows L
  · have e := dp_rows L
    show PyData.depthAll (L.map fun l => .list (l.map .int)) + 1 ≤ 50
    omega
  · obtain ⟨i1, i2⟩ := len_rows L h.2
    have e := listText_len_le (PyData.shownAll (L.map fun l => .list (l.map .int)))
    have e2 : PyData.shown (pR L) = listText (PyData.shownAll (L.map fun l => .list (l.map .int))) := by simp only [PyData.shown]
    have h1 := h.1
    rw [e2]
    omega
theorem repr_rows {s s1 : S} {f : DE} {L : List (List Int)} (e : f s = .ok (.lst (L.map lI)) s1) (h : small L) : dBi (b1 reprD) (aCons f aNil) s = .ok (.str (pR L).shown) s1 := by
  rw [r_bi (r_a1 e)]
  show poK s1 (reprK (toPg _ (.lst (L.map lI)))) = _
  rw [toPg_rows]
  show poK s1 (if rpOk (pR L) then .v (.str (pR L).shown) else .no) = _
  rw [if_pos (rp_rows h)] <;> rfl
theorem ok_ints : ∀ (l : List Int), ∀ t ∈ PyData.shownAll (l.map .int), PyData.strOk t = true
  | [], _, h => by cases h
  | x :: r, t, h => by
    rw [List.map_cons, PyData.shownAll_cons] at h
    rcases List.mem_cons.mp h with z | z
    · subst z
      exact ok_of (toString x)
    · exact ok_ints r t z
theorem ok_rows : ∀ (L : List (List Int)), ∀ t ∈ PyData.shownAll (L.map fun l => .list (l.map .int)), PyData.strOk t = true
  | [], _, h => by cases h
  | l :: r, t, h => by
    rw [List.map_cons, PyData.shownAll_cons] at h
    rcases List.mem_cons.mp h with z | z
    · subst z
      have e2 : PyData.shown (.list (l.map .int)) = listText (PyData.shownAll (l.map .int)) := by simp only [PyData.shown]
      rw [e2]
      exact ok_list _ (ok_ints l)
    · exact ok_rows r t z
theorem ok_pR (L : List (List Int)) : PyData.strOk (pR L).shown = true := by
  have e2 : PyData.shown (pR L) = listText (PyData.shownAll (L.map fun l => .list (l.map .int))) := by simp only [PyData.shown]
  rw [e2]
  exact ok_list _ (ok_rows L)
theorem lodd_of {f : DE} {s : S} {ns : List Int} (h : f s = .nl (ns.map .int) s) (hl : ns.length < 100000) : dFz (dCall 1 m__law_odd (aCons (dFz f) aNil)) s = .ok (lI (oddI ns)) s := r_fz_nl (r_cnl (r_a1 (r_fz_nl h)) (lodd_run ns s.ce hl) rfl)
theorem len_lst {f : DE} {s s1 : S} {l : List Int} (h : f s = .ok (lI l) s1) : dBi (b1 lenD) (aCons f aNil) s = .ok (.int ((l.length : Nat) : Int)) s1 := by
  rw [r_bi (r_a1 h)]
  show R.ok (.int (((l.map D.int).length : Nat) : Int)) s1 = _
  rw [List.length_map]

theorem held_none (nm : Str) (a : List Int) (h : (nm == ("_held" : Str)) = false) : (List.lookup nm [(("_held" : Str), lI a)]).isNone = true := by
  show (match nm == ("_held" : Str) with
    | true => some (lI a)
    | false => none).isNone = true
  rw [h] <;> rfl
theorem meth_run {nm : Str} {m : Fn} {f g : DE} {s : S} {a : List Int} {n : Int} {d : D} (hf : f s = .ok (fo a) s) (hg : g s = .ok (.int n) s) (hm : m [fo a, .int n] s.ce = .ok d s.ce) (hn : (nm == ("_held" : Str)) = false) : dFz (dMeth 0 2 nm m f (aCons g aNil)) s = .ok d s := by
  refine r_fz_ok ?_
  unfold dMeth
  rw [hf]
  show (if (List.lookup nm [(("_held" : Str), lI a)]).isNone = true then bindAR ((aCons g aNil) s) fun ds s2 => if ds.length + 1 = 2 then frK s2 (m (fo a :: ds) s2.ce) else .no else .no) = _
  rw [if_pos (held_none nm a hn), r_a1 hg]
  show frK s (m [fo a, .int n] s.ce) = _
  rw [hm] <;> rfl
theorem methK_run {nm : Str} {m : Fn} {f g : DE} {s : S} {a : List Int} {n : Int} {d : D} (hf : f s = .ok (fo a) s) (hg : g s = .ok (.int n) s) (hm : m [fo a, .int n] s.ce = .ok d s.ce) (hn : (nm == ("_held" : Str)) = false) : dFz (dMethK 0 2 1 nm m [0, 1] f (aCons g aNil)) s = .ok d s := by
  refine r_fz_ok ?_
  unfold dMethK
  rw [hf]
  show (if (List.lookup nm [(("_held" : Str), lI a)]).isNone = true then bindAR ((aCons g aNil) s) fun ds s2 => kwK 2 1 m [0, 1] s2 [fo a] ds else .no) = _
  rw [if_pos (held_none nm a hn), r_a1 hg]
  show frK s (m [fo a, .int n] s.ce) = _
  rw [hm] <;> rfl
theorem scaled_run {a : List Int} {f : Int} (ce : List Cell) (h : 1 ≤ f ∧ bits f < 9000 ∧ a.length < 100000) : m_form_scaled [fo a, .int f] ce = .ok (fo (lS a f)) ce := by
  show (match heldI (fo a) with
    | some a => if 1 ≤ f ∧ bits f < 9000 ∧ a.length < 100000 then FR.ok (fo (oddI (a.map fun d => d / gcdI d f))) ce else .no
    | none => .no) = _
  rw [heldI_fo]
  show (if 1 ≤ f ∧ bits f < 9000 ∧ a.length < 100000 then FR.ok (fo (oddI (a.map fun d => d / gcdI d f))) ce else .no) = _
  rw [if_pos h]
theorem spread_run {a : List Int} {f : Int} (ce : List Cell) (h : 1 ≤ f ∧ wideL a f = true ∧ a.length < 100000) : m_form_spread [fo a, .int f] ce = .ok (fo (mS a f)) ce := by
  show (match heldI (fo a) with
    | some a => if 1 ≤ f ∧ wideL a f = true ∧ a.length < 100000 then FR.ok (fo (a.map fun d => d * f)) ce else .no
    | none => .no) = _
  rw [heldI_fo]
  show (if 1 ≤ f ∧ wideL a f = true ∧ a.length < 100000 then FR.ok (fo (a.map fun d => d * f)) ce else .no) = _
  rw [if_pos h]
end K06
set_option maxRecDepth 100000
set_option maxHeartbeats 4000000
/-! k06: a turn with a factor -/
namespace K06
open PySem PySem.Spec PyProof.Rows L2 Dv
/-- drawn rows -/
structure Fa (a : List Int) : Prop where
  fm : Fm a
  len : a.length ≤ 20
  lt : ∀ x ∈ a, x < 2 ^ 100
theorem bit100 {x : Int} (h0 : 0 < x) (h : x < 2 ^ 100) : bits x < 100 := bits_lt (by omega) h (by decide)
theorem Fa.wide {a : List Int} (h : Fa a) {f : Int} (hf : 1 ≤ f) (hf2 : f < 2 ^ 1000) : wideL a f = true := List.all_eq_true.mpr fun x hx => by
  have b1 := bit100 (h.fm.pos x hx) (h.lt x hx)
  have b2 : bits f < 1000 := bits_lt (by omega) hf2 (by decide)
  exact decide_eq_true (by omega)
theorem nat_lt {x : Int} {k : Nat} (h0 : 0 < x) (h : x < 2 ^ k) : x.natAbs < 2 ^ k := by
  have e : ((x.natAbs : Nat) : Int) < ((2 ^ k : Nat) : Int) := by
    have e1 : ((x.natAbs : Nat) : Int) = x := by omega
    rw [e1, Int.natCast_pow]
    exact h
  exact Int.ofNat_lt.mp e
theorem Fa.small {a : List Int} (h : Fa a) {f : Int} (hf : 1 ≤ f) (hf2 : f < 2 ^ 300) : K06.small [lS a f, mS a f] := by
  have hl := h.len
  have hL := odd_len (a.map fun d => d / gcdI d f)
  rw [List.length_map] at hL
  have nf : f.natAbs < 2 ^ 300 := nat_lt (by omega) hf2
  refine ⟨(show (2 : Nat) ≤ 10 by decide), fun l hl' => ?_⟩
  rcases List.mem_cons.mp hl' with rfl | hl'
  · refine ⟨Nat.le_trans hL (by omega), fun x hx => ?_⟩
    obtain ⟨d, hd, rfl⟩ := List.mem_map.mp (odd_sub hx)
    have p := h.fm.pos d hd
    have q := quot_pos p hf
    have le : d / gcdI d f ≤ d := Int.ediv_le_self _ (by omega)
    have n1 : d.natAbs < 2 ^ 100 := nat_lt p (h.lt d hd)
    have n2 : (2 : Nat) ^ 100 ≤ 2 ^ 900 := by decide +kernel
    omega
  rcases List.mem_cons.mp hl' with rfl | hl'
  · refine ⟨by rw [List.length_map]; omega, fun x hx => ?_⟩
    obtain ⟨d, hd, rfl⟩ := List.mem_map.mp hx
    have n1 : d.natAbs < 2 ^ 100 := nat_lt (h.fm.pos d hd) (h.lt d hd)
    have n2 : d.natAbs * f.natAbs < 2 ^ 100 * 2 ^ 300 := Nat.mul_lt_mul'' n1 nf
    have n3 : 2 ^ 100 * 2 ^ 300 ≤ 2 ^ 900 := by decide +kernel
    show (d * f).natAbs < 2 ^ 900
    rw [Int.natAbs_mul]
    omega
  · cases hl'
section
variable {sl : List (Option D)} {ce : List Cell} {n0 i : Nat} {a : List Int}
/-- the quotients, the products of the rows in slot i by the number in slot k -/
theorem quo_run {k : Nat} {f : Int} (h : Fa a) (hi : sl[i]? = some (some (lI a))) (hk : sl[k]? = some (some (.int f))) (hik : i ≠ 9) (hkk : k ≠ 9) (h9 : 9 < sl.length) (hf : 1 ≤ f) (hf2 : f < 2 ^ 1000) :
    dCompV i (tgN 9) [9] bYes (dOp pDiv (dVar 9) (dFz (dCall 2 m__law_gcd (aCons (dVar 9) (aCons (dVar k) aNil))))) ⟨sl, ce, n0⟩ = .nl ((a.map fun d => d / gcdI d f).map .int) ⟨sl, ce, n0⟩ := by
  have e : dCompV i (tgN 9) [9] bYes (dOp pDiv (dVar 9) (dFz (dCall 2 m__law_gcd (aCons (dVar 9) (aCons (dVar k) aNil))))) ⟨sl, ce, n0⟩ = compL gYes (tgN 9) [9] bYes (dOp pDiv (dVar 9) (dFz (dCall 2 m__law_gcd (aCons (dVar 9) (aCons (dVar k) aNil))))) (a.map D.int) [] ⟨sl, ce, n0⟩ := by
    unfold dCompV
    rw [show (⟨sl, ce, n0⟩ : S).sl[i]? = some (some (lI a)) from hi] <;> rfl
  have hl := h.len
  rw [e, compL_all (fun d => match d with
    | .int x => .int (x / gcdI x f)
    | _ => .non) rfl (fun d hd => ?_) (by rw [List.length_map]; omega)]
  · rw [List.map_map, List.map_map] <;> rfl
  · obtain ⟨x, hx, rfl⟩ := List.mem_map.mp hd
    have hp := h.fm.pos x hx
    have g9 : ((sl.set 9 none).set 9 (some (D.int x)))[9]? = some (some (.int x)) := by
      rw [List.getElem?_set_self (by rw [List.length_set]; exact h9)]
    have gk : ((sl.set 9 none).set 9 (some (D.int x)))[k]? = some (some (.int f)) := by
      rw [List.getElem?_set_ne (fun z => hkk z.symm), List.getElem?_set_ne (fun z => hkk z.symm)]
      exact hk
    have hb : bits (gcdI x f) ≤ bits f := gcdI_bits hf
    have b2 : bits f < 1000 := bits_lt (by omega) hf2 (by decide)
    exact ⟨⟨(sl.set 9 none).set 9 (some (.int x)), ce, ce.length⟩, rfl, rfl, i_div (r_var (i := 9) g9) (r_fz_ok (r_cok (r_a2 (r_var (i := 9) g9) (r_var (i := k) gk)) (gcd_run ce ⟨hp, by omega⟩) rfl)) (gcdI_pos hf) (by omega)⟩
theorem pro_run {k : Nat} {f : Int} (h : Fa a) (hi : sl[i]? = some (some (lI a))) (hk : sl[k]? = some (some (.int f))) (hkk : k ≠ 9) (h9 : 9 < sl.length) (hf : 1 ≤ f) (hf2 : f < 2 ^ 1000) :
    dCompV i (tgN 9) [9] bYes (dOp pMul (dVar 9) (dVar k)) ⟨sl, ce, n0⟩ = .nl ((mS a f).map .int) ⟨sl, ce, n0⟩ := by
  have e : dCompV i (tgN 9) [9] bYes (dOp pMul (dVar 9) (dVar k)) ⟨sl, ce, n0⟩ = compL gYes (tgN 9) [9] bYes (dOp pMul (dVar 9) (dVar k)) (a.map D.int) [] ⟨sl, ce, n0⟩ := by
    unfold dCompV
    rw [show (⟨sl, ce, n0⟩ : S).sl[i]? = some (some (lI a)) from hi] <;> rfl
  have hl := h.len
  rw [e, compL_all (fun d => match d with
    | .int x => .int (x * f)
    | _ => .non) rfl (fun d hd => ?_) (by rw [List.length_map]; omega)]
  · rw [List.map_map, List.map_map] <;> rfl
  · obtain ⟨x, hx, rfl⟩ := List.mem_map.mp hd
    have g9 : ((sl.set 9 none).set 9 (some (D.int x)))[9]? = some (some (.int x)) := by
      rw [List.getElem?_set_self (by rw [List.length_set]; exact h9)]
    have gk : ((sl.set 9 none).set 9 (some (D.int x)))[k]? = some (some (.int f)) := by
      rw [List.getElem?_set_ne (fun z => hkk z.symm), List.getElem?_set_ne (fun z => hkk z.symm)]
      exact hk
    have b1 := bit100 (h.fm.pos x hx) (h.lt x hx)
    have b2 : bits f < 1000 := bits_lt (by omega) hf2 (by decide)
    exact ⟨⟨(sl.set 9 none).set 9 (some (.int x)), ce, ce.length⟩, rfl, rfl, i_mul (r_var (i := 9) g9) (r_var (i := k) gk) (by omega)⟩
end
theorem loop_all {t : DT} {body : DS} (Iv : S → Prop) : ∀ (xs : List D) (s : S), Iv s → (∀ s d, Iv s → d ∈ xs → ∃ s1, t d s = some s1 ∧ ∃ s2, body s1 = .nx s2 ∧ Iv s2) → ∃ s', loop t body xs s = .nx s' ∧ Iv s'
  | [], s, h, _ => ⟨s, rfl, h⟩
  | d :: ds, s, h, tn => by
    obtain ⟨s1, a1, s2, a2, a3⟩ := tn s d h List.mem_cons_self
    obtain ⟨s', b1, b2⟩ := loop_all Iv ds s2 a3 fun s d hs hd => tn s d hs (List.mem_cons_of_mem _ hd)
    exact ⟨s', (r_loop a1 a2).trans b1, b2⟩
noncomputable abbrev facB : DS := sSeq (sPar2 6 7 (aCons (dFz (dMeth 0 2 "scaled" m_form_scaled (dVar 2) (aCons (dVar 5) aNil))) (aCons (dFz (dMeth 0 2 "spread" m_form_spread (dVar 2) (aCons (dVar 5) aNil))) aNil)))
  (sSeq (sSet 8 (dFz (dCall 1 m__law_odd (aCons (dFz (dCompV 1 (tgN 9) [9] bYes (dOp pDiv (dVar 9) (dFz (dCall 2 m__law_gcd (aCons (dVar 9) (aCons (dVar 5) aNil))))))) aNil))))
  (sSeq (sIf (bTest (dOp pNe (dBi (b1 reprD) (aCons (dFz (dLst (aCons (dFz (dProp 0 1 m_form_divisors (dVar 6))) (aCons (dFz (dProp 0 1 m_form_divisors (dVar 7))) aNil)))) aNil)) (dBi (b1 reprD) (aCons (dFz (dLst (aCons (dVar 8) (aCons (dFz (dCompV 1 (tgN 9) [9] bYes (dOp pMul (dVar 9) (dVar 5)))) aNil)))) aNil)))) (sRet (dC (.bl false))) sNext)
  (sSeq (sIf (bOr (bNot (bTest (dEqO 0 2 m_form_eq (dFz (dMethK 0 2 1 "scaled" m_form_scaled [0, 1] (dVar 2) (aCons (dVar 5) aNil))) (dVar 6)))) (bNot (bTest (dEqO 0 2 m_form_eq (dFz (dMethK 0 2 1 "spread" m_form_spread [0, 1] (dVar 2) (aCons (dVar 5) aNil))) (dVar 7))))) (sRet (dC (.bl false))) sNext)
  (sSeq (sIf (bNot (bTest (dEqO 0 2 m_form_eq (dFz (dMeth 0 2 "scaled" m_form_scaled (dVar 7) (aCons (dVar 5) aNil))) (dVar 2)))) (sRet (dC (.bl false))) sNext)
  (sFor (iL (dVar 3)) (tgN 9) numB)))))
theorem fac_turn {j n0 : Nat} {a ns : List Int} {f : Int} {x4 x6 x7 x8 x9 : Option D} {ce : List Cell} (h : Fa a) (hf : 1 ≤ f) (hf2 : f < 2 ^ 300) (hn : ∀ n ∈ ns, 1 ≤ n ∧ n < 2 ^ 1000) :
    ∃ x9', facB (N10 j a (some (lI ns)) x4 (some (.int f)) x6 x7 x8 x9 ce n0) = .nx (N10 j a (some (lI ns)) x4 (some (.int f)) (some (fo (lS a f))) (some (fo (mS a f))) (some (lI (lS a f))) x9' ce n0) := by
  have hl := h.len
  have hf3 : f < 2 ^ 1000 := Int.lt_trans hf2 (by decide +kernel)
  have bf : bits f < 1000 := bits_lt (by omega) hf3 (by decide)
  let s2 := N10 j a (some (lI ns)) x4 (some (.int f)) (some (fo (lS a f))) (some (fo (mS a f))) x8 x9 ce n0
  have m1 := scaled_run (a := a) (f := f) ce ⟨hf, by omega, by omega⟩
  have m2 := spread_run (a := a) (f := f) ce ⟨hf, h.wide hf hf3, by omega⟩
  have q1 : sPar2 6 7 (aCons (dFz (dMeth 0 2 "scaled" m_form_scaled (dVar 2) (aCons (dVar 5) aNil))) (aCons (dFz (dMeth 0 2 "spread" m_form_spread (dVar 2) (aCons (dVar 5) aNil))) aNil)) (N10 j a (some (lI ns)) x4 (some (.int f)) x6 x7 x8 x9 ce n0) = .nx s2 :=
    r_par2 (r_a2 (meth_run (r_var rfl) (r_var rfl) m1 (by decide +kernel)) (meth_run (r_var rfl) (r_var rfl) m2 (by decide +kernel)))
  let s3 := N10 j a (some (lI ns)) x4 (some (.int f)) (some (fo (lS a f))) (some (fo (mS a f))) (some (lI (lS a f))) x9 ce n0
  have q2 : sSet 8 (dFz (dCall 1 m__law_odd (aCons (dFz (dCompV 1 (tgN 9) [9] bYes (dOp pDiv (dVar 9) (dFz (dCall 2 m__law_gcd (aCons (dVar 9) (aCons (dVar 5) aNil))))))) aNil))) s2 = .nx s3 :=
    r_set (lodd_of (quo_run (sl := s2.sl) (ce := ce) (n0 := n0) (i := 1) (k := 5) h rfl rfl (by decide) (by decide) (show 9 < 10 by decide) hf hf3) (by rw [List.length_map]; omega))
  have sm := h.small hf hf2
  have c1 : dBi (b1 reprD) (aCons (dFz (dLst (aCons (dFz (dProp 0 1 m_form_divisors (dVar 6))) (aCons (dFz (dProp 0 1 m_form_divisors (dVar 7))) aNil)))) aNil) s3 = .ok (.str (pR [lS a f, mS a f]).shown) s3 :=
    repr_rows (L := [lS a f, mS a f]) (r_fz_nl (r_lst (r_a2 (prop_of (r_var rfl)) (prop_of (r_var rfl))) (by show (2 : Nat) ≤ 100000; decide))) sm
  have c2 : dBi (b1 reprD) (aCons (dFz (dLst (aCons (dVar 8) (aCons (dFz (dCompV 1 (tgN 9) [9] bYes (dOp pMul (dVar 9) (dVar 5)))) aNil)))) aNil) s3 = .ok (.str (pR [lS a f, mS a f]).shown) s3 :=
    repr_rows (L := [lS a f, mS a f]) (r_fz_nl (r_lst (r_a2 (r_var rfl) (r_fz_nl (pro_run (sl := s3.sl) (ce := ce) (n0 := n0) (i := 1) (k := 5) h rfl rfl (by decide) (show 9 < 10 by decide) hf hf3))) (by show (2 : Nat) ≤ 100000; decide))) sm
  have t1 : bTest (dOp pNe (dBi (b1 reprD) (aCons (dFz (dLst (aCons (dFz (dProp 0 1 m_form_divisors (dVar 6))) (aCons (dFz (dProp 0 1 m_form_divisors (dVar 7))) aNil)))) aNil)) (dBi (b1 reprD) (aCons (dFz (dLst (aCons (dVar 8) (aCons (dFz (dCompV 1 (tgN 9) [9] bYes (dOp pMul (dVar 9) (dVar 5)))) aNil)))) aNil))) s3 = .ok false s3 :=
    r_test ((r_op c1 c2).trans (by rw [ne_str _ (ok_pR _)] <;> rfl))
  have t2 : bNot (bTest (dEqO 0 2 m_form_eq (dFz (dMethK 0 2 1 "scaled" m_form_scaled [0, 1] (dVar 2) (aCons (dVar 5) aNil))) (dVar 6))) s3 = .ok false s3 :=
    r_bnot (b1' := true) (r_test ((eqO_run (methK_run (r_var rfl) (r_var rfl) m1 (by decide +kernel)) (r_var rfl)).trans (by rw [decide_eq_true rfl])))
  have t3 : bNot (bTest (dEqO 0 2 m_form_eq (dFz (dMethK 0 2 1 "spread" m_form_spread [0, 1] (dVar 2) (aCons (dVar 5) aNil))) (dVar 7))) s3 = .ok false s3 :=
    r_bnot (b1' := true) (r_test ((eqO_run (methK_run (r_var rfl) (r_var rfl) m2 (by decide +kernel)) (r_var rfl)).trans (by rw [decide_eq_true rfl])))
  have m3 := scaled_run (a := mS a f) (f := f) ce ⟨hf, by omega, by rw [List.length_map]; omega⟩
  have eb : lS (mS a f) f = a := spread_back h.fm hf
  rw [eb] at m3
  have t4 : bNot (bTest (dEqO 0 2 m_form_eq (dFz (dMeth 0 2 "scaled" m_form_scaled (dVar 7) (aCons (dVar 5) aNil))) (dVar 2))) s3 = .ok false s3 :=
    r_bnot (b1' := true) (r_test ((eqO_run (meth_run (r_var rfl) (r_var rfl) m3 (by decide +kernel)) (r_var rfl)).trans (by rw [decide_eq_true rfl])))
  obtain ⟨s', q3, x9', rfl⟩ := loop_all (t := tgN 9) (body := numB) (fun s => ∃ x9', s = N10 j a (some (lI ns)) x4 (some (.int f)) (some (fo (lS a f))) (some (fo (mS a f))) (some (lI (lS a f))) x9' ce n0) (ns.map D.int) s3 ⟨x9, rfl⟩ fun s d ⟨x9', es⟩ hd => by
    subst es
    obtain ⟨n, hn', rfl⟩ := List.mem_map.mp hd
    obtain ⟨n1, n2⟩ := hn n hn'
    exact ⟨_, rfl, _, num_turn h.fm (by omega) hf hf3 n1 n2, some (.int n), rfl⟩
  exact ⟨x9', (r_seq q1).trans ((r_seq q2).trans ((r_seq ((r_sif_f t1).trans rfl)).trans ((r_seq ((r_sif_f ((r_bor_f t2).trans t3)).trans rfl)).trans ((r_seq ((r_sif_f t4).trans rfl)).trans ((r_for (r_iL (r_var rfl))).trans q3)))))⟩
end K06
set_option maxRecDepth 100000
set_option maxHeartbeats 4000000
/-! k06: _law_right -/
namespace K06
open PySem PySem.Spec PyProof.Rows L2 Dv
theorem ix_lst (ce : List Cell) {xs : List D} {k : Nat} {d : D} (h : xs[k]? = some d) : pIx ce (.lst xs) (.int ((k : Nat) : Int)) = .v d := by
  show itemK (atI xs ((k : Nat) : Int)) = _
  have hk : k < xs.length := (List.getElem?_eq_some_iff.mp h).1
  unfold atI
  rw [ixN_at hk]
  show itemK xs[k]? = _
  rw [h] <;> rfl

theorem atI_ok {xs : List D} {i : Int} (h : -(xs.length : Int) ≤ i ∧ i < (xs.length : Int)) : ∃ k : Nat, k < xs.length ∧ ∀ ce, pIx ce (.lst xs) (.int i) = .v (xs.getD k .non) := by
  by_cases z : 0 ≤ i
  · refine ⟨i.toNat, by omega, fun ce => ?_⟩
    have hk : i.toNat < xs.length := by omega
    have q := ix_lst ce (xs := xs) (k := i.toNat) (d := xs[i.toNat]) (List.getElem?_eq_getElem hk)
    rw [show ((i.toNat : Nat) : Int) = i from by omega] at q
    rw [q, List.getD_eq_getElem?_getD, List.getElem?_eq_getElem hk] <;> rfl
  · refine ⟨(i + xs.length).toNat, by omega, fun ce => ?_⟩
    have hk : (i + xs.length).toNat < xs.length := by omega
    show itemK (atI xs i) = _
    have e : atI xs i = xs[(i + xs.length).toNat]? := by
      unfold atI ixN
      simp only [if_neg z]
      first
        | rfl
        | (rw [if_pos (by omega)] <;> rfl)
        | (rw [if_neg (by omega)] <;> rfl)
    rw [e, List.getElem?_eq_getElem hk, List.getD_eq_getElem?_getD, List.getElem?_eq_getElem hk] <;> rfl
end K06
set_option maxRecDepth 100000
set_option maxHeartbeats 4000000
/-! k06: the whole of _law_right -/
namespace K06
open PySem PySem.Spec PyProof.Rows L2 Dv
/-- an item of the rows -/
theorem item_of {a : List Int} {i : Int} (h : -(a.length : Int) ≤ i ∧ i < (a.length : Int)) : ∃ x ∈ a, ∀ ce, pIx ce (lI a) (.int i) = .v (.int x) := by
  obtain ⟨k, hk, q⟩ := atI_ok (xs := a.map D.int) (i := i) (by rw [List.length_map]; exact h)
  rw [List.length_map] at hk
  refine ⟨a[k], List.getElem_mem hk, fun ce => (q ce).trans ?_⟩
  rw [List.getD_eq_getElem?_getD, List.getElem?_map, List.getElem?_eq_getElem hk] <;> rfl
def n12 : List Int := (List.range 12).map fun (k : Nat) => 1 + ((k : Nat) : Int)
theorem n12_ok : ∀ n ∈ n12, 1 ≤ n ∧ n < 2 ^ 1000 := by
  intro n hn
  obtain ⟨k, hk, rfl⟩ := List.mem_map.mp hn
  have := List.mem_range.mp hk
  exact ⟨by omega, Int.lt_of_lt_of_le (show (1 : Int) + k < 100 by omega) (by decide +kernel)⟩
abbrev nxE (f : DE) : DE := dFz (dCall 2 m__law_next (aCons (dVar 0) (aCons f aNil)))
abbrev lenE : DE := dBi (b1 lenD) (aCons (dVar 1) aNil)
noncomputable abbrev ifB : DS := sSeq (sDrop (dMt isL mApp (dVar 4) (aCons (dOp pIx (dVar 1) (nxE lenE)) aNil))) (sSet 3 (dFz (dOp pAdd (dVar 3) (dFz (dLst (aCons (dOp pIx (dVar 1) (nxE lenE)) (aCons (dOp pMul (dOp pIx (dVar 1) (dC (.int 0))) (dOp pIx (dVar 1) (dUn pNeg (dC (.int 1))))) aNil)))))))
abbrev R10 (j k : Nat) (a ns : List Int) (x4 : D) (ce : List Cell) (n0 : Nat) : S := ⟨[some (.rf j), some (lI a), some (fo a), some (lI ns), some x4, none, none, none, none, none], ce, n0⟩
theorem bits_len {a : List Int} (h : a.length ≤ 20) : bits ((a.length : Nat) : Int) < 8000 := by
  have := bits_lt (i := ((a.length : Nat) : Int)) (k := 100) (by omega) (Int.lt_of_le_of_lt (show ((a.length : Nat) : Int) ≤ 20 by omega) (by decide)) (by decide)
  omega
/-- the rows' own numbers are put in -/
theorem if_run {j : Nat} {a fs : List Int} {ce : List Cell} {T : Tp} (hj : j < ce.length) (h : Fa a) (hne : a ≠ []) (hT : TpOk T) (hc : T.c + 10 < 2 ^ 60) (hfl : fs.length ≤ 100) :
    ∃ x ns T', ifB (R10 j ce.length a n12 (.rf ce.length) ((ce.set j (.lst T.xs)) ++ [.lst (fs.map .int)]) ce.length) = .nx (R10 j ce.length a ns (.rf ce.length) ((ce.set j (.lst T'.xs)) ++ [.lst ((fs ++ [x]).map .int)]) ce.length) ∧ x ∈ a ∧ (∀ n ∈ ns, 1 ≤ n ∧ n < 2 ^ 1000) ∧ TpOk T' ∧ T'.c ≤ T.c + 2 := by
  have hl := h.len
  have hlen : 1 ≤ a.length := by
    cases a with
    | nil => exact absurd rfl hne
    | cons _ _ => simp
  have hbl := bits_len hl
  obtain ⟨a1, a2⟩ := nxt_ok T (m := ((a.length : Nat) : Int)) hT (by omega) (by omega)
  obtain ⟨a3, a4⟩ := nxt_range T (m := ((a.length : Nat) : Int)) hT (by omega)
  let T1 := (nxt T ((a.length : Nat) : Int)).2
  have c1 : T1.c ≤ T.c + 1 := a2
  obtain ⟨b1, b2⟩ := nxt_ok T1 (m := ((a.length : Nat) : Int)) a1 (by omega) (by omega)
  obtain ⟨b3, b4⟩ := nxt_range T1 (m := ((a.length : Nat) : Int)) a1 (by omega)
  let T2 := (nxt T1 ((a.length : Nat) : Int)).2
  have c2 : T2.c ≤ T1.c + 1 := b2
  obtain ⟨x, hx, ex⟩ := item_of (a := a) (i := (nxt T ((a.length : Nat) : Int)).1) ⟨by omega, by omega⟩
  obtain ⟨y, hy, ey⟩ := item_of (a := a) (i := (nxt T1 ((a.length : Nat) : Int)).1) ⟨by omega, by omega⟩
  obtain ⟨z, hz, ez⟩ := item_of (a := a) (i := 0) ⟨by omega, by omega⟩
  obtain ⟨w, hw, ew⟩ := item_of (a := a) (i := -1) ⟨by omega, by omega⟩
  have px := h.fm.pos
  have lt := h.lt
  let s0 := R10 j ce.length a n12 (.rf ce.length) ((ce.set j (.lst T.xs)) ++ [.lst (fs.map .int)]) ce.length
  let s1 := R10 j ce.length a n12 (.rf ce.length) ((ce.set j (.lst T1.xs)) ++ [.lst (fs.map .int)]) ce.length
  have e1 : nxE lenE s0 = .ok (.int (nxt T ((a.length : Nat) : Int)).1) s1 := by
    refine (r_next (s := s0) (j := j) (T := T) rfl (len_lst (r_var rfl)) (jx hj) ⟨hT, by omega, by omega, hbl⟩).trans ?_
    show R.ok _ ⟨_, ((ce.set j (.lst T.xs)) ++ [Cell.lst (fs.map .int)]).set j _, ce.length⟩ = _
    rw [js hj] <;> rfl
  have q1 : sDrop (dMt isL mApp (dVar 4) (aCons (dOp pIx (dVar 1) (nxE lenE)) aNil)) s0 = .nx (R10 j ce.length a n12 (.rf ce.length) ((ce.set j (.lst T1.xs)) ++ [.lst ((fs ++ [x]).map .int)]) ce.length) := by
    have e2 : dOp pIx (dVar 1) (nxE lenE) s0 = .ok (.int x) s1 := (r_op (r_var rfl) e1).trans (congrArg (poK _) (ex _))
    refine (r_drop (r_app (i := 4) (k := ce.length) (xs0 := fs.map .int) (xs := fs.map .int) rfl (by show cellL ((ce.set j _) ++ [Cell.lst (fs.map .int)])[ce.length]? = _; rw [kx] <;> rfl) (r_a1 e2) (by show cellL ((ce.set j _) ++ [Cell.lst (fs.map .int)])[ce.length]? = _; rw [kx] <;> rfl) (by rw [List.length_map]; omega))).trans ?_
    show O.nx ⟨_, ((ce.set j _) ++ [Cell.lst (fs.map .int)]).set ce.length _, ce.length⟩ = _
    rw [ks, List.map_append] <;> rfl
  let s2 := R10 j ce.length a n12 (.rf ce.length) ((ce.set j (.lst T1.xs)) ++ [.lst ((fs ++ [x]).map .int)]) ce.length
  let s3 := R10 j ce.length a n12 (.rf ce.length) ((ce.set j (.lst T2.xs)) ++ [.lst ((fs ++ [x]).map .int)]) ce.length
  have e3 : nxE lenE s2 = .ok (.int (nxt T1 ((a.length : Nat) : Int)).1) s3 := by
    refine (r_next (s := s2) (j := j) (T := T1) rfl (len_lst (r_var rfl)) (jx hj) ⟨a1, by omega, by omega, hbl⟩).trans ?_
    show R.ok _ ⟨_, ((ce.set j (.lst T1.xs)) ++ [Cell.lst ((fs ++ [x]).map .int)]).set j _, ce.length⟩ = _
    rw [js hj] <;> rfl
  have e4 : dOp pIx (dVar 1) (nxE lenE) s2 = .ok (.int y) s3 := (r_op (r_var rfl) e3).trans (congrArg (poK _) (ey _))
  have bz := bit100 (px z hz) (lt z hz)
  have bw := bit100 (px w hw) (lt w hw)
  have en : dUn pNeg (dC (.int 1)) s3 = .ok (.int (-1)) s3 := rfl
  have e5 : dOp pMul (dOp pIx (dVar 1) (dC (.int 0))) (dOp pIx (dVar 1) (dUn pNeg (dC (.int 1)))) s3 = .ok (.int (z * w)) s3 :=
    i_mul ((r_op (r_var rfl) rc).trans (congrArg (poK _) (ez _))) ((r_op (r_var rfl) en).trans (congrArg (poK _) (ew _))) (by omega)
  have e6 : dFz (dLst (aCons (dOp pIx (dVar 1) (nxE lenE)) (aCons (dOp pMul (dOp pIx (dVar 1) (dC (.int 0))) (dOp pIx (dVar 1) (dUn pNeg (dC (.int 1))))) aNil))) s2 = .ok (lI [y, z * w]) s3 := r_fz_nl (r_lst (r_a2 e4 e5) (by show (2 : Nat) ≤ 100000; decide))
  have e7 : dOp pAdd (dVar 3) (dFz (dLst (aCons (dOp pIx (dVar 1) (nxE lenE)) (aCons (dOp pMul (dOp pIx (dVar 1) (dC (.int 0))) (dOp pIx (dVar 1) (dUn pNeg (dC (.int 1))))) aNil)))) s2 = .nl ((n12 ++ [y, z * w]).map .int) s3 := by
    refine (r_op (r_var (i := 3) (d := lI n12) rfl) e6).trans ?_
    show poK _ (if (n12.map D.int).length + ([y, z * w].map D.int).length ≤ 100000 then Po.l (n12.map D.int ++ [y, z * w].map D.int) else .no) = _
    rw [if_pos (by rw [List.length_map, List.length_map]; show (12 : Nat) + 2 ≤ 100000; decide), List.map_append] <;> rfl
  have q2 := r_set (i := 3) (r_fz_nl e7)
  refine ⟨x, n12 ++ [y, z * w], T2, (r_seq q1).trans q2, hx, fun n hn => ?_, b1, by omega⟩
  rcases List.mem_append.mp hn with v | v
  · exact n12_ok n v
  · have p2 : (2 : Int) ^ 100 ≤ 2 ^ 1000 := by decide +kernel
    rcases List.mem_cons.mp v with rfl | v
    · exact ⟨by have := px n hy; omega, Int.lt_of_lt_of_le (lt n hy) p2⟩
    · rw [List.mem_singleton.mp v]
      have z0 := px z hz
      have w0 := px w hw
      have m0 := Int.mul_pos z0 w0
      have m1 : z * w < 2 ^ 100 * 2 ^ 100 := by
        have h1 : z * w ≤ z * 2 ^ 100 := Int.mul_le_mul_of_nonneg_left (Int.le_of_lt (lt w hw)) (by omega)
        have h2 : z * 2 ^ 100 < 2 ^ 100 * 2 ^ 100 := Int.mul_lt_mul_of_pos_right (lt z hz) (by decide +kernel)
        omega
      exact ⟨by omega, Int.lt_of_lt_of_le m1 (by decide +kernel)⟩
end K06
set_option maxRecDepth 100000
set_option maxHeartbeats 4000000
namespace K06
open PySem PySem.Spec PyProof.Rows L2 Dv
abbrev E20i : Int := 100000000000000000000
noncomputable abbrev DR : DS := D__law_right k_form_init m__law_next m_form_spread m_form_scaled m__law_gcd m__law_odd m_form_divisors m_form_eq m_form_call m__law_holds
theorem right_is {ce : List Cell} {j : Nat} {T : Tp} {a : List Int} (hc : ce[j]? = some (.lst T.xs)) (h : Fa a) (hg : good a = true) (hT : TpOk T) (hb : T.c + 20 < 2 ^ 60) :
    ∃ T' : Tp, (∃ s, DR (initS 10 [.rf j, lI a] ce) = .rt (.bl true) s ∧ ∃ junk, s.ce = ce.set j (.lst T'.xs) ++ junk) ∧ TpOk T' ∧ T'.c ≤ T.c + 6 := by
  have hj : j < ce.length := (List.getElem?_eq_some_iff.mp hc).1
  have hl := h.len
  have q1 : sPar2 2 3 (aCons (dFz (dMake 0 2 k_form_init (aCons (dFz (dBi (b1 listD) (aCons (dVar 1) aNil))) aNil))) (aCons (dFz (dListRg2 (dC (.int 1)) (dC (.int 13)))) aNil)) (initS 10 [.rf j, lI a] ce) = .nx ⟨[some (.rf j), some (lI a), some (fo a), some (lI n12), none, none, none, none, none, none], ce, ce.length⟩ := by
    have e2 : dListRg2 (dC (.int 1)) (dC (.int 13)) (initS 10 [.rf j, lI a] ce) = .nl (n12.map .int) (initS 10 [.rf j, lI a] ce) := by
      show R.nl (rngD 1 12) _ = _
      have e : rngD 1 12 = n12.map D.int := by
        unfold rngD n12
        rw [List.map_map] <;> rfl
      rw [e]
    exact r_par2 (r_a2 (form_run (s := initS 10 [.rf j, lI a] ce) (l := a) (list_run (l := a) (r_var (i := 1) rfl)) hg) (r_fz_nl e2))
  let u1 : S := ⟨[some (.rf j), some (lI a), some (fo a), some (lI n12), none, none, none, none, none, none], ce, ce.length⟩
  obtain ⟨a1, a2⟩ := nxt_ok T (m := 30) hT (by decide) (by omega)
  obtain ⟨a3, a4⟩ := nxt_range T (m := 30) hT (by decide)
  let T1 := (nxt T 30).2
  have c1 : T1.c ≤ T.c + 1 := a2
  have e20 := E20_ok
  obtain ⟨b1', b2⟩ := nxt_ok T1 (m := E20) a1 (by omega) (by omega)
  obtain ⟨b3, b4⟩ := nxt_range T1 (m := E20) a1 (by omega)
  let T2 := (nxt T1 E20).2
  have c2 : T2.c ≤ T1.c + 1 := b2
  have bt : bits E20 < 8000 := by
    have := bits_lt (i := E20) (k := 100) (by omega) (by rw [e20.2.2]; decide +kernel) (by decide)
    omega
  have b30 : bits 30 < 8000 := by
    have := bits_lt (i := 30) (k := 100) (by decide) (by decide +kernel) (by decide)
    omega
  have n1 : nxE (dC (.int 30)) u1 = .ok (.int (nxt T 30).1) ⟨u1.sl, ce.set j (.lst T1.xs), ce.length⟩ := r_next (s := u1) (j := j) (T := T) rfl rc hc ⟨hT, by omega, by decide, b30⟩
  have n2 : nxE (dOp pPow (dC (.int 10)) (dC (.int 20))) (⟨u1.sl, ce.set j (.lst T1.xs), ce.length⟩ : S) = .ok (.int (nxt T1 E20).1) ⟨u1.sl, ce.set j (.lst T2.xs), ce.length⟩ := by
    refine (r_next (s := ⟨u1.sl, ce.set j (.lst T1.xs), ce.length⟩) (j := j) (T := T1) (m := E20) rfl (i_pow rc rc (by decide)) (ce_set_get hc) ⟨a1, by omega, by omega, bt⟩).trans ?_
    show R.ok _ ⟨_, (ce.set j (.lst T1.xs)).set j _, ce.length⟩ = _
    rw [ce_set2]
  let fs : List Int := [1, 2 + (nxt T 30).1, 1 + (nxt T1 E20).1, 12]
  let u2 := R10 j ce.length a n12 (.rf ce.length) ((ce.set j (.lst T2.xs)) ++ [.lst (fs.map .int)]) ce.length
  have q2 : sSet 4 (dCe (dLst (aCons (dC (.int 1)) (aCons (dOp pAdd (dC (.int 2)) (nxE (dC (.int 30)))) (aCons (dOp pAdd (dC (.int 1)) (nxE (dOp pPow (dC (.int 10)) (dC (.int 20))))) (aCons (dC (.int 12)) aNil)))))) u1 = .nx u2 := by
    refine (r_set (i := 4) (r_ce_nl (r_lst (r_acons rc (r_a3 (i_add rc n1) (i_add rc n2) rc)) (by show (4 : Nat) ≤ 100000; decide)))).trans ?_
    have e : (ce.set j (.lst T2.xs)).length = ce.length := List.length_set
    show O.nx ⟨[some (.rf j), some (lI a), some (fo a), some (lI n12), some (.rf (ce.set j (.lst T2.xs)).length), none, none, none, none, none], _, _⟩ = _
    rw [e] <;> rfl
  have hfs : ∀ f ∈ fs, 1 ≤ f ∧ f < 2 ^ 300 := by
    have p : (1000000000000000000000 : Int) < 2 ^ 300 := by decide +kernel
    intro f hf
    rcases List.mem_cons.mp hf with rfl | hf
    · exact ⟨by omega, by omega⟩
    rcases List.mem_cons.mp hf with rfl | hf
    · exact ⟨by omega, by omega⟩
    rcases List.mem_cons.mp hf with rfl | hf
    · exact ⟨by omega, by omega⟩
    · rw [List.mem_singleton.mp hf]
      exact ⟨by omega, by omega⟩
  have t : bTest (dOp pNe (dVar 1) (dFz (dLst aNil))) u2 = .ok (!decide (a = [])) u2 := by
    refine r_test ((r_op (r_var rfl) (r_fz_nl (r_lst (ds := []) rfl (by decide)))).trans ?_)
    show poK u2 (pNe u2.ce (lI a) (lI [])) = _
    rw [ne_ints] <;> rfl
  obtain ⟨fs', ns, T3, q3, k1, k2, k3, k4⟩ : ∃ (fs' ns : List Int) (T3 : Tp), sIf (bTest (dOp pNe (dVar 1) (dFz (dLst aNil)))) ifB sNext u2 = .nx (R10 j ce.length a ns (.rf ce.length) ((ce.set j (.lst T3.xs)) ++ [.lst (fs'.map .int)]) ce.length) ∧ (∀ f ∈ fs', 1 ≤ f ∧ f < 2 ^ 300) ∧ (∀ n ∈ ns, 1 ≤ n ∧ n < 2 ^ 1000) ∧ TpOk T3 ∧ T3.c ≤ T.c + 4 := by
    by_cases z : a = []
    · rw [decide_eq_true z] at t
      exact ⟨fs, n12, T2, (r_sif_f t).trans rfl, hfs, n12_ok, b1', by omega⟩
    · rw [decide_eq_false z] at t
      obtain ⟨x, ns, T3, r1, r2, r3, r4, r5⟩ := if_run (fs := fs) hj h z b1' (by omega) (show 4 ≤ 100 by decide)
      refine ⟨fs ++ [x], ns, T3, (r_sif_t t).trans r1, fun f hf => ?_, r3, r4, by omega⟩
      rcases List.mem_append.mp hf with v | v
      · exact hfs f v
      · rw [List.mem_singleton.mp v]
        have p := h.fm.pos x r2
        exact ⟨by omega, Int.lt_trans (h.lt x r2) (by decide +kernel)⟩
  let ceG : List Cell := (ce.set j (.lst T3.xs)) ++ [.gone]
  have q4 : iL (dShare 4) (R10 j ce.length a ns (.rf ce.length) ((ce.set j (.lst T3.xs)) ++ [.lst (fs'.map .int)]) ce.length) = .ok (fs'.map D.int) (N10 j a (some (lI ns)) (some (lI fs')) none none none none none ceG ce.length) := by
    refine r_iL ?_
    show (if ce.length ≤ ce.length then shareC 4 ce.length (R10 j ce.length a ns (.rf ce.length) ((ce.set j (.lst T3.xs)) ++ [.lst (fs'.map .int)]) ce.length) ((ce.set j (.lst T3.xs)) ++ [Cell.lst (fs'.map .int)])[ce.length]? else .no) = _
    rw [if_pos (Nat.le_refl _), kx]
    show R.ok _ ⟨_, ((ce.set j (.lst T3.xs)) ++ [Cell.lst (fs'.map .int)]).set ce.length .gone, _⟩ = _
    rw [ks] <;> rfl
  obtain ⟨s', q5, x5, x6, x7, x8, x9, rfl⟩ := loop_all (t := tgN 5) (body := facB) (fun s => ∃ x5 x6 x7 x8 x9, s = N10 j a (some (lI ns)) (some (lI fs')) x5 x6 x7 x8 x9 ceG ce.length) (fs'.map D.int) (N10 j a (some (lI ns)) (some (lI fs')) none none none none none ceG ce.length) ⟨none, none, none, none, none, rfl⟩ fun s d ⟨x5, x6, x7, x8, x9, es⟩ hd => by
    subst es
    obtain ⟨f, hf, rfl⟩ := List.mem_map.mp hd
    obtain ⟨f1, f2⟩ := k1 f hf
    obtain ⟨x9', r⟩ := fac_turn (j := j) (n0 := ce.length) (x4 := some (lI fs')) (x6 := x6) (x7 := x7) (x8 := x8) (x9 := x9) (ce := ceG) h f1 f2 k2
    exact ⟨_, rfl, _, r, _, _, _, _, _, rfl⟩
  have q6 : dOp pEq (dFz (dProp 0 1 m_form_divisors (dVar 2))) (dVar 1) (N10 j a (some (lI ns)) (some (lI fs')) x5 x6 x7 x8 x9 ceG ce.length) = .ok (.bl true) (N10 j a (some (lI ns)) (some (lI fs')) x5 x6 x7 x8 x9 ceG ce.length) :=
    (r_op (prop_of (r_var rfl)) (r_var rfl)).trans (by rw [eq_ints, decide_eq_true rfl] <;> rfl)
  exact ⟨T3, ⟨_, (r_seq q1).trans ((r_seq q2).trans ((r_seq q3).trans ((r_seq ((r_for q4).trans q5)).trans (r_ret q6)))), [.gone], rfl⟩, k3, by omega⟩
def Rt (ce : List Cell) (j : Nat) (a : List Int) (T' : Tp) : Prop := (∃ s, DR (initS 10 [.rf j, lI a] ce) = .rt (.bl true) s ∧ ∃ junk, s.ce = ce.set j (.lst T'.xs) ++ junk) ∧ TpOk T' ∧ ∀ T : Tp, ce[j]? = some (.lst T.xs) → T'.c ≤ T.c + 6
noncomputable instance (ce : List Cell) (j : Nat) (a : List Int) : Decidable (∃ T', Rt ce j a T') := Classical.propDecidable _
noncomputable def m__law_right : Fn := fun ds ce => match ds with
  | [.rf j, d] => match lstI d with
    | some a => if h : ∃ T', Rt ce j a T' then .ok (.bl true) (ce.set j (.lst h.choose.xs)) else .no
    | none => .no
  | _ => .no
theorem does_right : Does 10 DR m__law_right := by
  intro ds ce hl
  unfold m__law_right
  split
  · rename_i j d
    cases e1 : lstI d with
    | none => trivial
    | some a =>
      have ed := lstI_eq e1
      subst ed
      show DoesK ce _ (if h : ∃ T', Rt ce j a T' then .ok (.bl true) (ce.set j (.lst h.choose.xs)) else .no)
      by_cases h : ∃ T', Rt ce j a T'
      · rw [dif_pos h]
        obtain ⟨⟨s, q1, junk, q2⟩, _, _⟩ := h.choose_spec
        exact .inl ⟨s, q1, rfl, Tail.one q2 rfl⟩
      · rw [dif_neg h]
        trivial
  · trivial
theorem xs_inj {T U : Tp} (h : (Cell.lst T.xs) = Cell.lst U.xs) : T = U := by
  have e : some (Cell.lst T.xs) = some (Cell.lst U.xs) := congrArg some h
  have e2 := congrArg tpC e
  rw [tpC_of, tpC_of] at e2
  exact Option.some.inj e2
theorem right_run {ce : List Cell} {j : Nat} {T : Tp} {a : List Int} {B : Nat} (hc : ce[j]? = some (.lst T.xs)) (h : Fa a) (hg : good a = true) (hT : TpOk T) (hb : T.c + (B + 20 : Nat) < 2 ^ 60) :
    ∃ T' : Tp, m__law_right [.rf j, lI a] ce = .ok (.bl true) (ce.set j (.lst T'.xs)) ∧ TpOk T' ∧ T'.c + (B : Nat) < 2 ^ 60 := by
  obtain ⟨T0, r1, r2, r3⟩ := right_is hc h hg hT (by omega)
  have hx : ∃ T', Rt ce j a T' := ⟨T0, r1, r2, fun U hU => by
    rw [hc] at hU
    have eU : T = U := xs_inj (Option.some.inj hU)
    subst eU
    exact r3⟩
  obtain ⟨_, k2, k3⟩ := hx.choose_spec
  refine ⟨hx.choose, ?_, k2, by have := k3 T hc; omega⟩
  show (match lstI (lI a) with
    | some a => if h : ∃ T', Rt ce j a T' then FR.ok (.bl true) (ce.set j (.lst h.choose.xs)) else .no
    | none => .no) = _
  rw [lstI_lI]
  show (if h : ∃ T', Rt ce j a T' then FR.ok (.bl true) (ce.set j (.lst h.choose.xs)) else .no) = _
  rw [dif_pos hx]
end K06
set_option maxRecDepth 100000
set_option maxHeartbeats 4000000
/-! k06: rows drawn; in -/
namespace K06
open PySem PySem.Spec PyProof.Rows L2 Dv
theorem rows_ok {T : Tp} {most : Int} {k : Nat} (hT : TpOk T) (hm0 : 0 ≤ most) (hm1 : most ≤ 60) (hc : T.c + (k + 400 : Nat) < 2 ^ 60) :
    TpOk (rowsR T most).1 ∧ (rowsR T most).1.c + (k : Nat) < 2 ^ 60 ∧ (∀ x ∈ (rowsR T most).2, 1 ≤ x ∧ x < E20) ∧ ((rowsR T most).2.length : Int) ≤ most := by
  obtain ⟨a1, a2⟩ := nxt_le (T := T) (m := 5) (k := k + 399) hT (by decide) (by omega)
  obtain ⟨b1, b2⟩ := nxt_le (T := (nxt T 5).2) (m := most + 1) (k := k + 398) a1 (by omega) (by omega)
  have rb := nxt_range _ a1 (m := most + 1) (by omega)
  unfold rowsR
  have hn : (nxt (nxt T 5).2 (most + 1)).1.toNat ≤ 60 := by omega
  obtain ⟨g1, g2, g3, g4⟩ := it_ok (way := (nxt T 5).1) (p := ((nxt (nxt T 5).2 (most + 1)).2, [])) b1 (fun x hx => by cases hx) (nxt (nxt T 5).2 (most + 1)).1.toNat (k := k) (by show (nxt (nxt T 5).2 (most + 1)).2.c + (k + 4 * _ : Nat) < 2 ^ 60; omega)
  refine ⟨g1, g2, g3, ?_⟩
  rw [g4]
  show ((0 + (nxt (nxt T 5).2 (most + 1)).1.toNat : Nat) : Int) ≤ most
  omega
theorem insS_len (k : Int) : ∀ l : List Int, (insS k l).length ≤ l.length + 1
  | [] => Nat.le_refl _
  | a :: r => by
    have ih := insS_len k r
    unfold insS
    split
    · simp
    · split
      · simp
      · simpa using ih
theorem sset_len : ∀ l : List Int, (sset l).length ≤ l.length
  | [] => Nat.le_refl _
  | a :: r => by
    have ih := sset_len r
    have h := insS_len a (sset r)
    show (insS a (sset r)).length ≤ r.length + 1
    omega
theorem asc_zip : ∀ {l : List Int}, l.Pairwise (· < ·) → ((l.zip (l.drop 1)).all fun p => decide (p.1 < p.2)) = true
  | [], _ => rfl
  | [a], _ => rfl
  | a :: b :: r, h => by
    obtain ⟨h1, h2⟩ := List.pairwise_cons.mp h
    have ih := asc_zip h2
    show (decide (a < b) && (((b :: r).zip r).all fun p => decide (p.1 < p.2))) = true
    rw [decide_eq_true (h1 b List.mem_cons_self)]
    exact ih
/-- the drawn divisors make a form -/
theorem drawnM {T : Tp} {most : Int} {k : Nat} (hT : TpOk T) (m0 : 0 ≤ most) (m1 : most ≤ 20) (hc : T.c + (k + 400 : Nat) < 2 ^ 60) : good (sset (rowsR T most).2) = true ∧ (sset (rowsR T most).2).length ≤ 20 ∧ (∀ x ∈ sset (rowsR T most).2, 0 < x ∧ x < 2 ^ 100) := by
  obtain ⟨h1, h2, h3, h4⟩ := rows_ok (T := T) (most := most) (k := k) hT m0 (by omega) hc
  have e20 := E20_ok.2.2
  have hl : (sset (rowsR T most).2).length ≤ 20 := by
    have := sset_len (rowsR T most).2
    omega
  have hx : ∀ x ∈ sset (rowsR T most).2, 1 ≤ x ∧ x < E20 := fun x hx => h3 x (sset_mem.mp hx)
  have ha := sset_asc (rowsR T most).2
  refine ⟨?_, hl, fun x h => ?_⟩
  · unfold good
    rw [decide_eq_true (by omega), asc_zip ha, Bool.and_true, Bool.true_and]
    refine List.all_eq_true.mpr fun x h => ?_
    have := hx x h
    rw [decide_eq_true (by omega), decide_eq_true (by omega)] <;> rfl
  · have := hx x h
    have : (100000000000000000000 : Int) < 2 ^ 100 := by decide
    omega
theorem rows_run {ce : List Cell} {j : Nat} {T : Tp} {most : Int} (hc : ce[j]? = some (.lst T.xs)) (h : TpOk T ∧ T.c + 1000 < 2 ^ 60 ∧ 0 ≤ most ∧ most ≤ 60) : m__law_rows [.rf j, .int most] ce = .nl ((sset (rowsR T most).2).map .int) (ce.set j (.lst (rowsR T most).1.xs)) := by
  show (match tpC ce[j]? with
    | some T => if TpOk T ∧ T.c + 1000 < 2 ^ 60 ∧ 0 ≤ most ∧ most ≤ 60 then FR.nl ((sset (rowsR T most).2).map .int) (ce.set j (.lst (rowsR T most).1.xs)) else .no
    | none => .no) = _
  rw [hc, tpC_of]
  show (if TpOk T ∧ T.c + 1000 < 2 ^ 60 ∧ 0 ≤ most ∧ most ≤ 60 then FR.nl ((sset (rowsR T most).2).map .int) (ce.set j (.lst (rowsR T most).1.xs)) else .no) = _
  rw [if_pos h]
theorem flat_ints : ∀ a : List Int, (a.map D.int).all flatD = true
  | [] => rfl
  | _ :: r => flat_ints r
theorem any_ints {n : Int} : ∀ {a : List Int}, n ∈ a → (a.map D.int).any (fun y => eqF y (.int n)) = true
  | x :: r, h => by
    rw [List.map_cons, List.any_cons]
    rcases List.mem_cons.mp h with z | z
    · subst z
      have : eqF (.int n) (.int n) = true := by simp [eqF]
      rw [this] <;> rfl
    · rw [any_ints z, Bool.or_true]
def m_form_contains : Fn := fun ds ce => match ds with
  | [d, .int n] => match heldI d with
    | some a => if 1 ≤ n ∧ n ∈ a then .ok (.bl true) ce else .no
    | none => .no
  | _ => .no
theorem isnum_run {n : Int} (ce : List Cell) (h : 1 ≤ n) : m_is_number [.int n] ce = .ok (.bl true) ce := by
  show FR.ok (.bl (decide (1 ≤ n))) ce = _
  rw [decide_eq_true h]
theorem does_contains : Does 2 (D_form_contains m_is_number) m_form_contains := by
  intro ds ce hl
  unfold m_form_contains
  split
  · rename_i d n
    cases e1 : heldI d with
    | none => trivial
    | some a =>
      have ed := heldI_eq e1
      subst ed
      by_cases hg : 1 ≤ n ∧ n ∈ a
      · show DoesK ce _ (if 1 ≤ n ∧ n ∈ a then .ok (.bl true) ce else .no)
        rw [if_pos hg]
        have h0 : dOp (pIn false) (dVar 1) (dUn (pFld 0 "_held") (dVar 0)) (initS 2 [fo a, .int n] ce) = .ok (.bl true) (initS 2 [fo a, .int n] ce) := by
          rw [r_op (a := .int n) (r_var rfl) (held_run (a := a) rfl)]
          show poK _ (if flatD (.int n) = true ∧ (a.map D.int).all flatD = true then Po.v (.bl ((a.map D.int).any fun y => eqF y (.int n))) else .no) = _
          rw [if_pos ⟨rfl, flat_ints a⟩, any_ints hg.2] <;> rfl
        exact .inl ⟨initS 2 [fo a, .int n] ce, r_ret ((r_and_t (r_fz_ok (r_cok (r_a1 (r_var rfl)) (isnum_run ce hg.1) rfl))).trans h0), rfl, Tail.id rfl⟩
      · show DoesK ce _ (if 1 ≤ n ∧ n ∈ a then .ok (.bl true) ce else .no)
        rw [if_neg hg]
        trivial
  · trivial

theorem notin_run {s : S} {f g : DE} {a : List Int} {n : Int} (hf : f s = .ok (.int n) s) (hg : g s = .ok (fo a) s) (hn : 1 ≤ n) (hm : n ∈ a) : dNotInO 0 m_form_contains f g s = .ok (.bl false) s := by
  unfold dNotInO
  rw [hf]
  show bindR (g s) _ = _
  rw [hg]
  show boolN (frK s (match heldI (fo a) with
    | some a => if 1 ≤ n ∧ n ∈ a then FR.ok (.bl true) s.ce else .no
    | none => .no)) = _
  rw [heldI_fo]
  show boolN (frK s (if 1 ≤ n ∧ n ∈ a then FR.ok (.bl true) s.ce else .no)) = _
  rw [if_pos ⟨hn, hm⟩] <;> rfl
theorem fa_of {a : List Int} (h : ∀ x ∈ a, 0 < x ∧ x < 2 ^ 100) (asc : a.Pairwise (· < ·)) (hl : a.length ≤ 20) : Fa a := ⟨⟨fun x hx => (h x hx).1, asc⟩, hl, fun x hx => (h x hx).2⟩
/-- spread again and again -/
theorem pw_lt {f : Int} (h1 : 1 ≤ f) (h2 : f < 2 ^ 70) : ∀ k : Nat, 1 ≤ f ^ k ∧ f ^ k ≤ (2 ^ 70) ^ k
  | 0 => by simp
  | k + 1 => by
    obtain ⟨a1, a2⟩ := pw_lt h1 h2 k
    rw [Int.pow_succ, Int.pow_succ]
    constructor
    · have := Int.mul_pos (show 0 < f ^ k by omega) (show 0 < f by omega)
      omega
    · exact Int.mul_le_mul a2 (Int.le_of_lt h2) (by omega) (by omega)
theorem mS_succ (a : List Int) (f : Int) (k : Nat) : mS (mS a (f ^ k)) f = mS a (f ^ (k + 1)) := by
  show ((a.map fun d => d * f ^ k).map fun d => d * f) = _
  rw [spread_twice, Int.pow_succ]
theorem lS_succ {a : List Int} {f : Int} (h : Fm a) (hf : 1 ≤ f) (k : Nat) (hk : 1 ≤ f ^ k) : lS (mS a (f ^ (k + 1))) f = mS a (f ^ k) := by
  rw [← mS_succ]
  exact spread_back (fm_spread h hk) hf
theorem mS_zero (a : List Int) (f : Int) : mS a (f ^ 0) = a := by
  have e : (fun d : Int => d * f ^ 0) = id := funext fun d => by simp
  show a.map _ = a
  rw [e, List.map_id]
theorem wide_pw {a : List Int} {f : Int} (h : Fa a) (h1 : 1 ≤ f) (h2 : f < 2 ^ 70) {k : Nat} (hk : k ≤ 6) : wideL (mS a (f ^ k)) f = true := List.all_eq_true.mpr fun x hx => by
  obtain ⟨d, hd, rfl⟩ := List.mem_map.mp hx
  obtain ⟨p1, p2⟩ := pw_lt h1 h2 k
  have d0 := h.fm.pos d hd
  have p3 : ((2 : Int) ^ 70) ^ k ≤ 2 ^ 420 := by
    have : k = 0 ∨ k = 1 ∨ k = 2 ∨ k = 3 ∨ k = 4 ∨ k = 5 ∨ k = 6 := by omega
    rcases this with rfl | rfl | rfl | rfl | rfl | rfl | rfl <;> decide +kernel
  have p4 : d * f ^ k ≤ 2 ^ 100 * 2 ^ 420 := Int.mul_le_mul (Int.le_of_lt (h.lt d hd)) (Int.le_trans p2 p3) (by omega) (by decide +kernel)
  have p5 : 0 < d * f ^ k := Int.mul_pos d0 (by omega)
  have b1 : bits (d * f ^ k) < 1000 := bits_lt (by omega) (Int.lt_of_le_of_lt p4 (by decide +kernel)) (by decide)
  have b2 : bits f < 1000 := bits_lt (by omega) (Int.lt_trans h2 (by decide +kernel)) (by decide)
  exact decide_eq_true (by omega)
end K06
set_option maxRecDepth 100000
set_option maxHeartbeats 4000000
/-! k06: the law -/
namespace K06
open PySem PySem.Spec PyProof.Rows L2 Dv
def m_law : Fn := fun ds ce => match ds with
  | [.ro xs] => match intsD xs with
    | some ns => if ns.length ≤ 63 then .ok (.bl true) ce else .no
    | none => .no
  | _ => .no
theorem rng_mem {n : Nat} {d : D} (h : d ∈ rngD 0 n) : ∃ i : Nat, i < n ∧ d = .int ((i : Nat) : Int) := by
  obtain ⟨i, hi, rfl⟩ := List.mem_map.mp h
  exact ⟨i, List.mem_range.mp hi, by rw [Int.zero_add]⟩
theorem tape_run {xs : List Int} {i : Nat} (ce : List Cell) (h : i < 64) : m__law_tape [.ro (xs.map .int), .int ((i : Nat) : Int)] ce = .nl (tp0 xs i).xs ce := by
  show (match intsD (xs.map .int) with
    | some ns => if 0 ≤ ((i : Nat) : Int) ∧ ((i : Nat) : Int) < 64 then FR.nl (tp0 ns ((i : Nat) : Int).toNat).xs ce else .no
    | none => .no) = _
  rw [intsD_map]
  show (if 0 ≤ ((i : Nat) : Int) ∧ ((i : Nat) : Int) < 64 then FR.nl (tp0 xs ((i : Nat) : Int).toNat).xs ce else .no) = _
  rw [if_pos ⟨by omega, by omega⟩, Int.toNat_natCast]
theorem eq_two (ce : List Cell) (a b : List Int) : pEq ce (.lst [lI a, lI b]) (.lst [lI a, lI b]) = .v (.bl true) := by
  have e : toPc ce (.lst [lI a, lI b]) = some (.list [.list (a.map .int), .list (b.map .int)]) := by
    show (match (toPs (a.map D.int)).map PyData.list, (match (toPs (b.map D.int)).map PyData.list, some [] with
      | some p, some ps => some (p :: ps)
      | _, _ => none) with
      | some p, some ps => some (p :: ps)
      | _, _ => none).map PyData.list = _
    rw [toPs_ints, toPs_ints] <;> rfl
  have sh : SeqAt.shaped (.list [.list (a.map .int), .list (b.map .int)]) = true := by
    have h1 := SeqAt.canLay_of_shaped (shaped_ints a)
    have h2 := SeqAt.canLay_of_shaped (shaped_ints b)
    show ((PyData.canLay0 (.list (a.map .int)) && (PyData.canLay0 (.list (b.map .int)) && true)) && decide (max (PyData.depthAll (a.map .int) + 1) (max (PyData.depthAll (b.map .int) + 1) 0) + 1 ≤ 64)) = true
    rw [h1, h2, dp_ints, dp_ints] <;> rfl
  have ev : PyData.eqv (.list [.list (a.map .int), .list (b.map .int)]) (.list [.list (a.map .int), .list (b.map .int)]) = true := by
    show (PyData.eqvAll (a.map .int) (a.map .int) && (PyData.eqvAll (b.map .int) (b.map .int) && true)) = true
    rw [eqv_ints, eqv_ints, decide_eq_true rfl, decide_eq_true rfl] <;> rfl
  unfold pEq
  rw [e]
  show (if SeqAt.shaped (.list [.list (a.map .int), .list (b.map .int)]) = true ∧ SeqAt.shaped (.list [.list (a.map .int), .list (b.map .int)]) = true then Po.v (.bl (PyData.eqv (.list [.list (a.map .int), .list (b.map .int)]) (.list [.list (a.map .int), .list (b.map .int)]))) else .no) = _
  rw [if_pos ⟨sh, sh⟩, ev]
theorem prop_nl {s : S} {f : DE} {a : List Int} (h : f s = .ok (fo a) s) : dProp 0 1 m_form_divisors f s = .nl (a.map .int) s := by
  unfold dProp
  rw [h]
  show noEr (frK s (match heldI (fo a) with
    | some a => FR.nl (a.map .int) s.ce
    | none => .no)) = _
  rw [heldI_fo] <;> rfl

abbrev W15 (x0 : D) (k : Option D) (j : Nat) (t r4 x5 x6 x7 x8 x9 x10 x11 x12 x13 : Option D) (ce : List Cell) (n0 : Nat) : S := ⟨[some x0, k, some (.rf j), t, r4, x5, x6, x7, x8, x9, x10, x11, x12, x13, none], ce, n0⟩
noncomputable abbrev rowB : DS := sSeq (sSet 4 (dFz (dCall 2 m__law_rows (aCons (dVar 2) (aCons (dVar 3) aNil))))) (sIf (bNot (bTest (dFz (dCall 2 m__law_right (aCons (dVar 2) (aCons (dVar 4) aNil)))))) (sRet (dC (.bl false))) sNext)
theorem row_turn {x0 : D} {k r4 x5 x6 x7 x8 x9 x10 x11 x12 x13 : Option D} {j n0 : Nat} {ce : List Cell} {T : Tp} {most : Int} {B : Nat} (m0 : 0 ≤ most) (m1 : most ≤ 20) (hc : ce[j]? = some (.lst T.xs)) (hT : TpOk T) (hb : T.c + (B + 1100 : Nat) < 2 ^ 60) :
    ∃ a T', rowB (W15 x0 k j (some (.int most)) r4 x5 x6 x7 x8 x9 x10 x11 x12 x13 ce n0) = .nx (W15 x0 k j (some (.int most)) (some (lI a)) x5 x6 x7 x8 x9 x10 x11 x12 x13 (ce.set j (.lst T'.xs)) n0) ∧ Fa a ∧ good a = true ∧ TpOk T' ∧ T'.c + (B : Nat) < 2 ^ 60 := by
  obtain ⟨g1, g2, _, _⟩ := rows_ok (T := T) (most := most) (k := B + 600) hT m0 (by omega) (by omega)
  obtain ⟨d1, d2, d3⟩ := drawnM (T := T) (most := most) (k := B + 600) hT m0 m1 (by omega)
  let T1 := (rowsR T most).1
  have c1 : T1.c + ((B + 600 : Nat) : Int) < 2 ^ 60 := g2
  have fa : Fa (sset (rowsR T most).2) := fa_of d3 (sset_asc _) d2
  have q1 : sSet 4 (dFz (dCall 2 m__law_rows (aCons (dVar 2) (aCons (dVar 3) aNil)))) (W15 x0 k j (some (.int most)) r4 x5 x6 x7 x8 x9 x10 x11 x12 x13 ce n0) = .nx (W15 x0 k j (some (.int most)) (some (lI (sset (rowsR T most).2))) x5 x6 x7 x8 x9 x10 x11 x12 x13 (ce.set j (.lst T1.xs)) n0) := by
    refine r_set (s1 := W15 x0 k j (some (.int most)) r4 x5 x6 x7 x8 x9 x10 x11 x12 x13 (ce.set j (.lst T1.xs)) n0) (r_fz_nl ((r_call (r_a2 (r_var rfl) (r_var rfl)) rfl).trans ?_))
    show frK _ (m__law_rows [.rf j, .int most] ce) = _
    rw [rows_run hc ⟨hT, by omega, m0, by omega⟩] <;> rfl
  obtain ⟨T2, e2, hT2, hb2⟩ := right_run (B := B) (ce_set_get (c' := Cell.lst T1.xs) hc) fa d1 g1 (by omega)
  rw [ce_set2] at e2
  have t : bNot (bTest (dFz (dCall 2 m__law_right (aCons (dVar 2) (aCons (dVar 4) aNil))))) (W15 x0 k j (some (.int most)) (some (lI (sset (rowsR T most).2))) x5 x6 x7 x8 x9 x10 x11 x12 x13 (ce.set j (.lst T1.xs)) n0) = .ok false (W15 x0 k j (some (.int most)) (some (lI (sset (rowsR T most).2))) x5 x6 x7 x8 x9 x10 x11 x12 x13 (ce.set j (.lst T2.xs)) n0) :=
    r_bnot (b1' := true) (r_test (r_fz_ok ((r_call (r_a2 (r_var rfl) (r_var rfl)) rfl).trans (by
      show frK _ (m__law_right [.rf j, lI (sset (rowsR T most).2)] (ce.set j (.lst T1.xs))) = _
      rw [e2] <;> rfl))))
  exact ⟨_, T2, (r_seq q1).trans ((r_sif_f t).trans rfl), fa, d1, hT2, hb2⟩
abbrev nx2 (f : DE) : DE := dFz (dCall 2 m__law_next (aCons (dVar 2) (aCons f aNil)))
theorem nx2_run {s : S} {j : Nat} {T : Tp} {m : Int} {f : DE} (h2 : s.sl[2]? = some (some (.rf j))) (hf : f s = .ok (.int m) s) (hc : s.ce[j]? = some (.lst T.xs)) (h : TpOk T ∧ T.c + 1 < 2 ^ 60 ∧ 1 ≤ m ∧ bits m < 8000) : nx2 f s = .ok (.int (nxt T m).1) ⟨s.sl, s.ce.set j (.lst (nxt T m).2.xs), s.n0⟩ := by
  refine r_fz_ok ((r_call (r_a2 (r_var h2) hf) rfl).trans ?_)
  rw [next_run hc h] <;> rfl
noncomputable abbrev FR4 : DE := dFz (dMake 0 2 k_form_init (aCons (dFz (dBi (b1 listD) (aCons (dVar 4) aNil))) aNil))
end K06
set_option maxRecDepth 100000
set_option maxHeartbeats 4000000
namespace K06
open PySem PySem.Spec PyProof.Rows L2 Dv
theorem loop_inv {t : DT} {body : DS} (Iv : Nat → S → Prop) : ∀ (xs : List D) (i : Nat) (s : S), Iv i s → (∀ k s d, Iv k s → k < i + xs.length → d ∈ xs → ∃ s1, t d s = some s1 ∧ ∃ s2, body s1 = .nx s2 ∧ Iv (k + 1) s2) → ∃ s', loop t body xs s = .nx s' ∧ Iv (i + xs.length) s'
  | [], i, s, h, _ => ⟨s, rfl, h⟩
  | d :: ds, i, s, h, tn => by
    rw [List.length_cons] at tn
    obtain ⟨s1, a1, s2, a2, a3⟩ := tn i s d h (by omega) List.mem_cons_self
    obtain ⟨s', b1, b2⟩ := loop_inv Iv ds (i + 1) s2 a3 fun k s d hk hl hd => tn k s d hk (by omega) (List.mem_cons_of_mem _ hd)
    refine ⟨s', (r_loop a1 a2).trans b1, ?_⟩
    rw [List.length_cons]
    have e : i + (ds.length + 1) = i + 1 + ds.length := by omega
    rw [e]
    exact b2
noncomputable abbrev farB (rest : DS) : DS := sSeq (sSet 5 (dOp pAdd (dOp pAdd (dOp pPow (dC (.int 10)) (dC (.int 59))) (dC (.int 1))) (nx2 (dOp pPow (dC (.int 10)) (dC (.int 20))))))
  (sSeq (sPar2 6 7 (aCons (dFz (dMeth 0 2 "scaled" m_form_scaled FR4 (aCons (dVar 5) aNil))) (aCons (dFz (dMeth 0 2 "spread" m_form_spread FR4 (aCons (dVar 5) aNil))) aNil)))
  (sSeq (sSet 8 (dFz (dCall 1 m__law_odd (aCons (dFz (dCompV 4 (tgN 9) [9] bYes (dOp pDiv (dVar 9) (dFz (dCall 2 m__law_gcd (aCons (dVar 9) (aCons (dVar 5) aNil))))))) aNil))))
  (sSeq (sIf (bOr (bTest (dOp pNe (dFz (dProp 0 1 m_form_divisors (dVar 6))) (dVar 8))) (bTest (dOp pNe (dFz (dProp 0 1 m_form_divisors (dVar 7))) (dFz (dCompV 4 (tgN 9) [9] bYes (dOp pMul (dVar 9) (dVar 5))))))) (sRet (dC (.bl false))) sNext) rest)))
theorem p59 : (10 : Int) ^ (59 : Int).toNat + 1 + 100000000000000000000 < 2 ^ 300 ∧ (0 : Int) < 10 ^ (59 : Int).toNat := by decide +kernel
theorem far_run {x0 : D} {k t x5 x6 x7 x8 x9 x10 x11 x12 x13 : Option D} {j n0 : Nat} {ce : List Cell} {T : Tp} {a : List Int} {rest : DS} (h : Fa a) (hg : good a = true) (hc : ce[j]? = some (.lst T.xs)) (hT : TpOk T) (hb : T.c + 10 < 2 ^ 60) :
    ∃ x5' x6' x7' x8' T', farB rest (W15 x0 k j t (some (lI a)) x5 x6 x7 x8 x9 x10 x11 x12 x13 ce n0) = rest (W15 x0 k j t (some (lI a)) x5' x6' x7' x8' x9 x10 x11 x12 x13 (ce.set j (.lst T'.xs)) n0) ∧ TpOk T' ∧ T'.c ≤ T.c + 1 := by
  have e20 := E20_ok
  obtain ⟨b1', b2⟩ := nxt_ok T (m := E20) hT (by omega) (by omega)
  obtain ⟨b3, b4⟩ := nxt_range T (m := E20) hT (by omega)
  let T1 := (nxt T E20).2
  have bt : bits E20 < 8000 := by
    have := bits_lt (i := E20) (k := 100) (by omega) (by rw [e20.2.2]; decide +kernel) (by decide)
    omega
  obtain ⟨f, hf⟩ : ∃ f : Int, f = 10 ^ (59 : Int).toNat + 1 + (nxt T E20).1 := ⟨_, rfl⟩
  have f1 : 1 ≤ f := by have := p59.2; omega
  have f2 : f < 2 ^ 300 := by have := p59.1; omega
  have f3 : f < 2 ^ 1000 := Int.lt_trans f2 (by decide +kernel)
  have bf : bits f < 1000 := bits_lt (by omega) f3 (by decide)
  have hl := h.len
  let ce1 := ce.set j (.lst T1.xs)
  let u := W15 x0 k j t (some (lI a)) (some (.int f)) x6 x7 x8 x9 x10 x11 x12 x13 ce1 n0
  have q1 : sSet 5 (dOp pAdd (dOp pAdd (dOp pPow (dC (.int 10)) (dC (.int 59))) (dC (.int 1))) (nx2 (dOp pPow (dC (.int 10)) (dC (.int 20))))) (W15 x0 k j t (some (lI a)) x5 x6 x7 x8 x9 x10 x11 x12 x13 ce n0) = .nx u := by
    have n1 := nx2_run (s := W15 x0 k j t (some (lI a)) x5 x6 x7 x8 x9 x10 x11 x12 x13 ce n0) (j := j) (T := T) (m := E20) rfl (i_pow rc rc (by decide)) hc ⟨hT, by omega, by omega, bt⟩
    have r := r_set (i := 5) (i_add (i_add (j := 1) (i_pow (i := 10) (j := 59) rc rc (by decide)) rc) n1)
    rw [← hf] at r
    exact r
  have m1 := scaled_run (a := a) (f := f) ce1 ⟨f1, by omega, by omega⟩
  have m2 := spread_run (a := a) (f := f) ce1 ⟨f1, h.wide f1 f3, by omega⟩
  let v := W15 x0 k j t (some (lI a)) (some (.int f)) (some (fo (lS a f))) (some (fo (mS a f))) x8 x9 x10 x11 x12 x13 ce1 n0
  have q2 : sPar2 6 7 (aCons (dFz (dMeth 0 2 "scaled" m_form_scaled FR4 (aCons (dVar 5) aNil))) (aCons (dFz (dMeth 0 2 "spread" m_form_spread FR4 (aCons (dVar 5) aNil))) aNil)) u = .nx v :=
    r_par2 (r_a2 (meth_run (form_run (list_run (r_var (i := 4) rfl)) hg) (r_var (i := 5) rfl) m1 (by decide +kernel)) (meth_run (form_run (list_run (r_var (i := 4) rfl)) hg) (r_var (i := 5) rfl) m2 (by decide +kernel)))
  let w := W15 x0 k j t (some (lI a)) (some (.int f)) (some (fo (lS a f))) (some (fo (mS a f))) (some (lI (lS a f))) x9 x10 x11 x12 x13 ce1 n0
  have q3 : sSet 8 (dFz (dCall 1 m__law_odd (aCons (dFz (dCompV 4 (tgN 9) [9] bYes (dOp pDiv (dVar 9) (dFz (dCall 2 m__law_gcd (aCons (dVar 9) (aCons (dVar 5) aNil))))))) aNil))) v = .nx w :=
    r_set (lodd_of (quo_run (sl := v.sl) (ce := ce1) (n0 := n0) (i := 4) (k := 5) h rfl rfl (by decide) (by decide) (show 9 < 15 by decide) f1 f3) (by rw [List.length_map]; omega))
  have t1 : bTest (dOp pNe (dFz (dProp 0 1 m_form_divisors (dVar 6))) (dVar 8)) w = .ok false w :=
    r_test ((r_op (prop_of (a := lS a f) (r_var (i := 6) rfl)) (r_var (i := 8) (d := lI (lS a f)) rfl)).trans (by rw [ne_ints, decide_eq_true rfl] <;> rfl))
  have t2 : bTest (dOp pNe (dFz (dProp 0 1 m_form_divisors (dVar 7))) (dFz (dCompV 4 (tgN 9) [9] bYes (dOp pMul (dVar 9) (dVar 5))))) w = .ok false w :=
    r_test ((r_op (prop_of (a := mS a f) (r_var (i := 7) rfl)) (r_fz_nl (pro_run (sl := w.sl) (ce := ce1) (n0 := n0) (i := 4) (k := 5) h rfl rfl (by decide) (show 9 < 15 by decide) f1 f3))).trans (by
      show poK _ (pNe _ (lI (mS a f)) (lI (mS a f))) = _
      rw [ne_ints, decide_eq_true rfl] <;> rfl))
  exact ⟨_, _, _, _, T1, (r_seq q1).trans ((r_seq q2).trans ((r_seq q3).trans ((r_seq ((r_sif_f ((r_bor_f t1).trans t2)).trans rfl))))), b1', b2⟩
end K06
set_option maxRecDepth 100000
set_option maxHeartbeats 4000000
namespace K06
open PySem PySem.Spec PyProof.Rows L2 Dv
/-! spread again and again, and back -/
noncomputable abbrev upB : DS := sAsg (tgT [(tgN 10), (tgN 12)]) (dTup (aCons (dFz (dMeth 0 2 "spread" m_form_spread (dVar 10) (aCons (dVar 11) aNil))) (aCons (dOp pMul (dVar 12) (dVar 11)) aNil)))
noncomputable abbrev inB : DB := bOr (bTest (dNotInO 0 m_form_contains (dVar 9) (dVar 10))) (bTest (dOp pNe (dCallO 0 2 m_form_call (dVar 10) (aCons (dVar 9) aNil)) (dFz (dCall 2 m__law_holds (aCons (dVar 4) (aCons (dOp pDiv (dVar 9) (dVar 12)) aNil))))))
noncomputable abbrev backB : DS := sSeq (sSet 12 (dC (.int 1)))
  (sSeq (sFor (iA rng1 (aCons (dC (.int 6)) aNil)) (tgN 13) upB)
  (sSeq (sIf (bTest (dOp pNe (dFz (dProp 0 1 m_form_divisors (dVar 10))) (dFz (dCompV 4 (tgN 9) [9] bYes (dOp pMul (dVar 9) (dVar 12)))))) (sRet (dC (.bl false))) sNext)
  (sSeq (sIf (bTest (dOp pNe (dFz (dComp (iL (dProp 0 1 m_form_divisors (dVar 10))) (tgN 9) [9] inB (dVar 9))) (dFz (dLst aNil)))) (sRet (dC (.bl false))) sNext)
  (sSeq (sFor (iA rng1 (aCons (dC (.int 6)) aNil)) (tgN 13) (sSet 10 (dFz (dMeth 0 2 "scaled" m_form_scaled (dVar 10) (aCons (dVar 11) aNil)))))
  (sIf (bNot (bTest (dEqO 0 2 m_form_eq (dVar 10) FR4))) (sRet (dC (.bl false))) sNext)))))
theorem pw6 {f : Int} (h1 : 1 ≤ f) (h2 : f < 2 ^ 70) {k : Nat} (hk : k ≤ 6) : 1 ≤ f ^ k ∧ f ^ k < 2 ^ 1000 := by
  obtain ⟨p1, p2⟩ := pw_lt h1 h2 k
  have p3 : ((2 : Int) ^ 70) ^ k ≤ 2 ^ 420 := by
    have : k = 0 ∨ k = 1 ∨ k = 2 ∨ k = 3 ∨ k = 4 ∨ k = 5 ∨ k = 6 := by omega
    rcases this with rfl | rfl | rfl | rfl | rfl | rfl | rfl <;> decide +kernel
  exact ⟨p1, Int.lt_of_le_of_lt (Int.le_trans p2 p3) (by decide +kernel)⟩
theorem back_run {x0 : D} {k t x5 x6 x7 x8 x9 x12 x13 : Option D} {j n0 : Nat} {ce : List Cell} {a : List Int} {f : Int} (h : Fa a) (hg : good a = true) (f1 : 1 ≤ f) (f2 : f < 2 ^ 70) :
    ∃ x10' x12' x13', backB (W15 x0 k j t (some (lI a)) x5 x6 x7 x8 x9 (some (fo a)) (some (.int f)) x12 x13 ce n0) = .nx (W15 x0 k j t (some (lI a)) x5 x6 x7 x8 x9 x10' (some (.int f)) x12' x13' ce n0) := by
  have hl := h.len
  have f3 : f < 2 ^ 1000 := Int.lt_trans f2 (by decide +kernel)
  have bf : bits f < 1000 := bits_lt (by omega) f3 (by decide)
  let s1 := W15 x0 k j t (some (lI a)) x5 x6 x7 x8 x9 (some (fo a)) (some (.int f)) (some (.int 1)) x13 ce n0
  have q1 : sSet 12 (dC (.int 1)) (W15 x0 k j t (some (lI a)) x5 x6 x7 x8 x9 (some (fo a)) (some (.int f)) x12 x13 ce n0) = .nx s1 := r_set rc
  have i6 : ∀ s : S, iA rng1 (aCons (dC (.int 6)) aNil) s = .ok (rngD 0 6) s := fun s => r_iA (r_a1 rc) rfl
  obtain ⟨s', q2, y13, e2⟩ := loop_inv (t := tgN 13) (body := upB) (fun i s => ∃ y13, s = W15 x0 k j t (some (lI a)) x5 x6 x7 x8 x9 (some (fo (mS a (f ^ i)))) (some (.int f)) (some (.int (f ^ i))) y13 ce n0) (rngD 0 6) 0 s1
    ⟨x13, by rw [mS_zero, Int.pow_zero]⟩ fun i s d ⟨y13, es⟩ hk hd => by
      subst es
      rw [rngD_len] at hk
      have m := spread_run (a := mS a (f ^ i)) (f := f) ce ⟨f1, wide_pw h f1 f2 (by omega), by rw [List.length_map]; omega⟩
      rw [mS_succ] at m
      obtain ⟨w1, w2⟩ := pw6 f1 f2 (k := i) (by omega)
      have bw : bits (f ^ i) < 1000 := bits_lt (by omega) w2 (by decide)
      let u := W15 x0 k j t (some (lI a)) x5 x6 x7 x8 x9 (some (fo (mS a (f ^ i)))) (some (.int f)) (some (.int (f ^ i))) (some d) ce n0
      have e : dTup (aCons (dFz (dMeth 0 2 "spread" m_form_spread (dVar 10) (aCons (dVar 11) aNil))) (aCons (dOp pMul (dVar 12) (dVar 11)) aNil)) u = .ok (.tup [fo (mS a (f ^ (i + 1))), .int (f ^ i * f)]) u :=
        r_tup (r_a2 (meth_run (r_var (i := 10) rfl) (r_var (i := 11) rfl) m (by decide +kernel)) (i_mul (r_var (i := 12) rfl) (r_var (i := 11) rfl) (by omega))) (by show (2 : Nat) ≤ 100000; decide)
      refine ⟨u, rfl, W15 x0 k j t (some (lI a)) x5 x6 x7 x8 x9 (some (fo (mS a (f ^ (i + 1))))) (some (.int f)) (some (.int (f ^ i * f))) (some d) ce n0, ?_, some d, by rw [Int.pow_succ]⟩
      unfold upB sAsg
      rw [e] <;> rfl
  rw [rngD_len, Nat.zero_add] at e2
  subst e2
  obtain ⟨w1, w2⟩ := pw6 f1 f2 (k := 6) (by omega)
  let W := f ^ 6
  let s2 := W15 x0 k j t (some (lI a)) x5 x6 x7 x8 x9 (some (fo (mS a (f ^ 6)))) (some (.int f)) (some (.int (f ^ 6))) y13 ce n0
  have t1 : bTest (dOp pNe (dFz (dProp 0 1 m_form_divisors (dVar 10))) (dFz (dCompV 4 (tgN 9) [9] bYes (dOp pMul (dVar 9) (dVar 12))))) s2 = .ok false s2 :=
    r_test ((r_op (prop_of (a := mS a (f ^ 6)) (r_var (i := 10) rfl)) (r_fz_nl (pro_run (sl := s2.sl) (ce := ce) (n0 := n0) (i := 4) (k := 12) h rfl rfl (by decide) (show 9 < 15 by decide) w1 w2))).trans (by
      show poK _ (pNe _ (lI (mS a (f ^ 6))) (lI (mS a (f ^ 6)))) = _
      rw [ne_ints, decide_eq_true rfl] <;> rfl))
  have fmW := fm_spread h.fm w1
  have pl : posL a = true := List.all_eq_true.mpr fun x hx => decide_eq_true (h.fm.pos x hx)
  have ec : dComp (iL (dProp 0 1 m_form_divisors (dVar 10))) (tgN 9) [9] inB (dVar 9) s2 = .nl [] s2 := by
    rw [r_comp (r_iL_nl (prop_nl (a := mS a (f ^ 6)) (r_var (i := 10) rfl))), compL_pu (fun _ => false) id rfl (fun d hd => ?_) (by rw [List.length_map, List.length_map]; omega)]
    · simp
    · obtain ⟨x, hx, rfl⟩ := List.mem_map.mp hd
      obtain ⟨y, hy, rfl⟩ := List.mem_map.mp hx
      have x1 : 1 ≤ y * f ^ 6 := by
        have := fmW.pos _ hx
        omega
      let v := W15 x0 k j t (some (lI a)) x5 x6 x7 x8 (some (.int (y * f ^ 6))) (some (fo (mS a (f ^ 6)))) (some (.int f)) (some (.int (f ^ 6))) y13 ce ce.length
      have bW : bits (f ^ 6) < 1000 := bits_lt (by omega) w2 (by decide)
      have c1 : bTest (dNotInO 0 m_form_contains (dVar 9) (dVar 10)) v = .ok false v := r_test (notin_run (a := mS a (f ^ 6)) (n := y * f ^ 6) (r_var (i := 9) rfl) (r_var (i := 10) rfl) x1 hx)
      have c2 : dCallO 0 2 m_form_call (dVar 10) (aCons (dVar 9) aNil) v = .ok (.bl (pr (mS a (f ^ 6)) (y * f ^ 6))) v := callo_run (r_var (i := 10) rfl) (r_var (i := 9) rfl) x1 fmW.pos (by rw [List.length_map]; omega)
      have c3 : dFz (dCall 2 m__law_holds (aCons (dVar 4) (aCons (dOp pDiv (dVar 9) (dVar 12)) aNil))) v = .ok (.bl (pr a (y * f ^ 6 / f ^ 6))) v := r_fz_ok (r_cok (r_a2 (r_var (i := 4) rfl) (i_div (r_var (i := 9) rfl) (r_var (i := 12) rfl) (by omega) (by omega))) (holds_run ce ⟨pl, by omega⟩) rfl)
      have e3 : pr (mS a (f ^ 6)) (y * f ^ 6) = pr a (y * f ^ 6 / f ^ 6) := by
        rw [pr_spread_at w1, Int.mul_ediv_cancel y (by omega)]
      have c4 : bTest (dOp pNe (dCallO 0 2 m_form_call (dVar 10) (aCons (dVar 9) aNil)) (dFz (dCall 2 m__law_holds (aCons (dVar 4) (aCons (dOp pDiv (dVar 9) (dVar 12)) aNil))))) v = .ok false v :=
        r_test ((r_op c2 c3).trans (by rw [ne_bl, e3, Bool.xor_self] <;> rfl))
      exact ⟨v, rfl, rfl, (r_bor_f c1).trans c4, fun z => (by cases z)⟩
  have t2 : bTest (dOp pNe (dFz (dComp (iL (dProp 0 1 m_form_divisors (dVar 10))) (tgN 9) [9] inB (dVar 9))) (dFz (dLst aNil))) s2 = .ok false s2 :=
    r_test ((r_op (r_fz_nl ec) (r_fz_nl (r_lst (ds := []) rfl (by decide)))).trans (by
      show poK _ (pNe _ (lI []) (lI [])) = _
      rw [ne_ints, decide_eq_true rfl] <;> rfl))
  obtain ⟨s3, q3, z13, e3⟩ := loop_inv (t := tgN 13) (body := sSet 10 (dFz (dMeth 0 2 "scaled" m_form_scaled (dVar 10) (aCons (dVar 11) aNil)))) (fun i s => ∃ z13, s = W15 x0 k j t (some (lI a)) x5 x6 x7 x8 x9 (some (fo (mS a (f ^ (6 - i))))) (some (.int f)) (some (.int (f ^ 6))) z13 ce n0) (rngD 0 6) 0 s2
    ⟨y13, rfl⟩ fun i s d ⟨z13, es⟩ hk hd => by
      subst es
      rw [rngD_len] at hk
      obtain ⟨v1, v2⟩ := pw6 f1 f2 (k := 6 - (i + 1)) (by omega)
      have m := scaled_run (a := mS a (f ^ (6 - (i + 1) + 1))) (f := f) ce ⟨f1, by omega, by rw [List.length_map]; omega⟩
      rw [lS_succ h.fm f1 _ v1] at m
      have e6 : 6 - (i + 1) + 1 = 6 - i := by omega
      rw [e6] at m
      exact ⟨_, rfl, _, r_set (meth_run (a := mS a (f ^ (6 - i))) (r_var (i := 10) rfl) (r_var (i := 11) rfl) m (by decide +kernel)), some d, rfl⟩
  rw [rngD_len, Nat.zero_add] at e3
  subst e3
  let s4 := W15 x0 k j t (some (lI a)) x5 x6 x7 x8 x9 (some (fo (mS a (f ^ (6 - 6))))) (some (.int f)) (some (.int (f ^ 6))) z13 ce n0
  have t3 : bNot (bTest (dEqO 0 2 m_form_eq (dVar 10) FR4)) s4 = .ok false s4 :=
    r_bnot (b1' := true) (r_test ((eqO_run (a := mS a (f ^ (6 - 6))) (b := a) (r_var (i := 10) rfl) (form_run (list_run (r_var (i := 4) rfl)) hg)).trans (by rw [show (6 - 6 : Nat) = 0 from rfl, mS_zero, decide_eq_true rfl])))
  exact ⟨_, _, _, (r_seq q1).trans ((r_seq ((r_for (i6 _)).trans q2)).trans ((r_seq ((r_sif_f t1).trans rfl)).trans ((r_seq ((r_sif_f t2).trans rfl)).trans ((r_seq ((r_for (i6 _)).trans q3)).trans ((r_sif_f t3).trans rfl)))))⟩
end K06
set_option maxRecDepth 100000
set_option maxHeartbeats 4000000
namespace K06
open PySem PySem.Spec PyProof.Rows L2 Dv
/-! the law put together -/
noncomputable abbrev asgB : DS := sAsg (tgT [(tgN 10), (tgN 11)]) (dTup (aCons FR4 (aCons (dOp pSub (dOp pSub (dOp pPow (dC (.int 10)) (dC (.int 20))) (dC (.int 1))) (nx2 (dC (.int 9)))) aNil)))
theorem asg_run {x0 : D} {k t x5 x6 x7 x8 x9 x10 x11 x12 x13 : Option D} {j n0 : Nat} {ce : List Cell} {T : Tp} {a : List Int} (hg : good a = true) (hc : ce[j]? = some (.lst T.xs)) (hT : TpOk T) (hb : T.c + 10 < 2 ^ 60) :
    ∃ f T', asgB (W15 x0 k j t (some (lI a)) x5 x6 x7 x8 x9 x10 x11 x12 x13 ce n0) = .nx (W15 x0 k j t (some (lI a)) x5 x6 x7 x8 x9 (some (fo a)) (some (.int f)) x12 x13 (ce.set j (.lst T'.xs)) n0) ∧ 1 ≤ f ∧ f < 2 ^ 70 ∧ TpOk T' ∧ T'.c ≤ T.c + 1 := by
  have e20 := E20_ok
  obtain ⟨b1', b2⟩ := nxt_ok T (m := 9) hT (by decide) (by omega)
  obtain ⟨b3, b4⟩ := nxt_range T (m := 9) hT (by decide)
  have b9 : bits 9 < 8000 := by
    have := bits_lt (i := 9) (k := 100) (by decide) (by decide +kernel) (by decide)
    omega
  let s := W15 x0 k j t (some (lI a)) x5 x6 x7 x8 x9 x10 x11 x12 x13 ce n0
  let s1 := W15 x0 k j t (some (lI a)) x5 x6 x7 x8 x9 x10 x11 x12 x13 (ce.set j (.lst (nxt T 9).2.xs)) n0
  have e1 : dOp pSub (dOp pPow (dC (.int 10)) (dC (.int 20))) (dC (.int 1)) s = .ok (.int (E20 - 1)) s := i_sub (i_pow rc rc (by decide)) rc
  have n1 : nx2 (dC (.int 9)) s = .ok (.int (nxt T 9).1) s1 := nx2_run (s := s) (j := j) (T := T) rfl rc hc ⟨hT, by omega, by decide, b9⟩
  have e2 : dTup (aCons FR4 (aCons (dOp pSub (dOp pSub (dOp pPow (dC (.int 10)) (dC (.int 20))) (dC (.int 1))) (nx2 (dC (.int 9)))) aNil)) s = .ok (.tup [fo a, .int (E20 - 1 - (nxt T 9).1)]) s1 :=
    r_tup (r_a2 (form_run (list_run (r_var (i := 4) rfl)) hg) (i_sub e1 n1)) (by show (2 : Nat) ≤ 100000; decide)
  have p70 : (100000000000000000000 : Int) < 2 ^ 70 := by decide +kernel
  refine ⟨E20 - 1 - (nxt T 9).1, (nxt T 9).2, ?_, by omega, by omega, b1', b2⟩
  unfold asgB sAsg
  rw [e2] <;> rfl
noncomputable abbrev kB : DS := sSeq (sFor (iL (dLst (aCons (dC (.int 3)) (aCons (dC (.int 6)) (aCons (dC (.int 12)) (aCons (dC (.int 20)) aNil)))))) (tgN 3) rowB) (farB (sSeq asgB backB))
theorem four_mem {d : D} (h : d ∈ [D.int 3, .int 6, .int 12, .int 20]) : ∃ m : Int, d = .int m ∧ 0 ≤ m ∧ m ≤ 20 := by
  rcases List.mem_cons.mp h with rfl | h
  · exact ⟨3, rfl, by decide, by decide⟩
  rcases List.mem_cons.mp h with rfl | h
  · exact ⟨6, rfl, by decide, by decide⟩
  rcases List.mem_cons.mp h with rfl | h
  · exact ⟨12, rfl, by decide, by decide⟩
  rcases List.mem_cons.mp h with rfl | h
  · exact ⟨20, rfl, by decide, by decide⟩
  · cases h
theorem k_turn {x0 : D} {k t r4 x5 x6 x7 x8 x9 x10 x11 x12 x13 : Option D} {n0 : Nat} {cs : List Cell} {T : Tp} (hT : TpOk T) (hb : T.c + (20000 : Nat) < 2 ^ 60) :
    ∃ t' r4' x5' x6' x7' x8' x10' x11' x12' x13' T', kB (W15 x0 k cs.length t r4 x5 x6 x7 x8 x9 x10 x11 x12 x13 (cs ++ [.lst T.xs]) n0) = .nx (W15 x0 k cs.length t' r4' x5' x6' x7' x8' x9 x10' x11' x12' x13' (cs ++ [.lst (T' : Tp).xs]) n0) := by
  have q0 : iL (dLst (aCons (dC (.int 3)) (aCons (dC (.int 6)) (aCons (dC (.int 12)) (aCons (dC (.int 20)) aNil))))) (W15 x0 k cs.length t r4 x5 x6 x7 x8 x9 x10 x11 x12 x13 (cs ++ [.lst T.xs]) n0) = .ok [D.int 3, .int 6, .int 12, .int 20] (W15 x0 k cs.length t r4 x5 x6 x7 x8 x9 x10 x11 x12 x13 (cs ++ [.lst T.xs]) n0) :=
    r_iL_nl (r_lst (r_acons rc (r_a3 rc rc rc)) (by show (4 : Nat) ≤ 100000; decide))
  obtain ⟨s1, q1, t1, y4, T1, e1, hT1, hb1, ha⟩ := loop_inv (t := tgN 3) (body := rowB) (fun i s => ∃ t y4 T, s = W15 x0 k cs.length t y4 x5 x6 x7 x8 x9 x10 x11 x12 x13 (cs ++ [.lst (T : Tp).xs]) n0 ∧ TpOk T ∧ T.c + (20000 - 1100 * i : Nat) < 2 ^ 60 ∧ (1 ≤ i → ∃ a, y4 = some (lI a) ∧ Fa a ∧ good a = true)) [D.int 3, .int 6, .int 12, .int 20] 0 (W15 x0 k cs.length t r4 x5 x6 x7 x8 x9 x10 x11 x12 x13 (cs ++ [.lst T.xs]) n0)
    ⟨t, r4, T, rfl, hT, hb, fun z => absurd z (by decide)⟩ fun i s d ⟨t, y4, T, es, hT, hb, _⟩ hk hd => by
      subst es
      have hk' : i < 4 := hk
      obtain ⟨m, rfl, m0, m1⟩ := four_mem hd
      obtain ⟨a, T', r1, r2, r3, r4', r5⟩ := row_turn (x0 := x0) (k := k) (r4 := y4) (x5 := x5) (x6 := x6) (x7 := x7) (x8 := x8) (x9 := x9) (x10 := x10) (x11 := x11) (x12 := x12) (x13 := x13) (n0 := n0) (ce := cs ++ [.lst T.xs]) (j := cs.length) (B := 20000 - 1100 * (i + 1)) m0 m1 cell_last hT (by omega)
      rw [set_last] at r1
      exact ⟨_, rfl, _, r1, some (.int m), some (lI a), T', rfl, r4', r5, fun _ => ⟨a, rfl, r2, r3⟩⟩
  subst e1
  obtain ⟨a, rfl, fa, hg⟩ := ha (show 1 ≤ 0 + 4 by decide)
  obtain ⟨y5, y6, y7, y8, T2, q2, hT2, c2⟩ := far_run (x0 := x0) (k := k) (t := t1) (x5 := x5) (x6 := x6) (x7 := x7) (x8 := x8) (x9 := x9) (x10 := x10) (x11 := x11) (x12 := x12) (x13 := x13) (n0 := n0) (ce := cs ++ [.lst T1.xs]) (j := cs.length) (rest := sSeq asgB backB) fa hg cell_last hT1 (by
    have hb1' : T1.c + ((20000 - 1100 * 4 : Nat) : Int) < 2 ^ 60 := hb1
    omega)
  rw [set_last] at q2
  have hb1' : T1.c + ((20000 - 1100 * 4 : Nat) : Int) < 2 ^ 60 := hb1
  obtain ⟨f, T3, q3, f1, f2, hT3, c3⟩ := asg_run (x0 := x0) (k := k) (t := t1) (x5 := y5) (x6 := y6) (x7 := y7) (x8 := y8) (x9 := x9) (x10 := x10) (x11 := x11) (x12 := x12) (x13 := x13) (n0 := n0) (ce := cs ++ [.lst T2.xs]) (j := cs.length) (a := a) hg cell_last hT2 (by omega)
  rw [set_last] at q3
  obtain ⟨z10, z12, z13, q4⟩ := back_run (x0 := x0) (k := k) (t := t1) (x5 := y5) (x6 := y6) (x7 := y7) (x8 := y8) (x9 := x9) (x12 := x12) (x13 := x13) (n0 := n0) (ce := cs ++ [.lst T3.xs]) (j := cs.length) fa hg f1 f2
  exact ⟨_, _, _, _, _, _, _, _, _, _, T3, (r_seq ((r_for q0).trans q1)).trans (q2.trans ((r_seq q3).trans q4))⟩
end K06
set_option maxRecDepth 100000
set_option maxHeartbeats 4000000
namespace K06
open PySem PySem.Spec PyProof.Rows L2 Dv
theorem odd_one_one : oddI [1, 1] = [] := fm_one (fm_odd (by decide)) ⟨by decide, .nil⟩ fun n _ => by
  rw [pr_odd]
  show xor (decide (n % 1 = 0)) (xor (decide (n % 1 = 0)) false) = false
  cases decide (n % 1 = 0) <;> rfl
theorem l46a : lS [4, 6] 2 = [2, 3] := by
  have e : ([4, 6].map fun d => d / gcdI d 2) = [2, 3] := by decide +kernel
  show oddI ([4, 6].map fun d => d / gcdI d 2) = _
  rw [e]
  exact odd_id ⟨by decide, by decide⟩
theorem l46b : lS [4, 6] 12 = [] := by
  have e : ([4, 6].map fun d => d / gcdI d 12) = [1, 1] := by decide +kernel
  show oddI ([4, 6].map fun d => d / gcdI d 12) = _
  rw [e]
  exact odd_one_one
noncomputable abbrev LawEnd : DS := sSeq (sSet 14 (dFz (dMake 0 2 k_form_init (aCons (dFz (dLst (aCons (dC (.int 4)) (aCons (dC (.int 6)) aNil)))) aNil)))) (sRet (dAnd (dOp pEq (dFz (dLst (aCons (dFz (dProp 0 1 m_form_divisors (dFz (dMeth 0 2 "scaled" m_form_scaled (dVar 14) (aCons (dC (.int 2)) aNil))))) (aCons (dFz (dProp 0 1 m_form_divisors (dFz (dMeth 0 2 "scaled" m_form_scaled (dVar 14) (aCons (dC (.int 12)) aNil))))) aNil)))) (dFz (dLst (aCons (dFz (dLst (aCons (dC (.int 2)) (aCons (dC (.int 3)) aNil)))) (aCons (dFz (dLst aNil)) aNil))))) (dCallO 0 2 m_form_call (dFz (dMeth 0 2 "spread" m_form_spread (dFz (dMake 0 2 k_form_init (aCons (dFz (dLst (aCons (dC (.int 1)) aNil))) aNil))) (aCons (dC (.int 5)) aNil))) (aCons (dC (.int 10)) aNil))))
theorem end_run {ps : List (Option D)} {ce : List Cell} {n0 : Nat} (h14 : ps.length = 15) : ∃ s, LawEnd (⟨ps, ce, n0⟩ : S) = .rt (.bl true) s ∧ s.ce = ce := by
  let u : S := ⟨ps.set 14 (some (fo [4, 6])), ce, n0⟩
  have q1 : sSet 14 (dFz (dMake 0 2 k_form_init (aCons (dFz (dLst (aCons (dC (.int 4)) (aCons (dC (.int 6)) aNil)))) aNil))) (⟨ps, ce, n0⟩ : S) = .nx u :=
    r_set (form_run (l := [4, 6]) (r_fz_nl (r_lst (r_a2 rc rc) (by show (2 : Nat) ≤ 100000; decide))) (by decide +kernel))
  have v14 : u.sl[14]? = some (some (fo [4, 6])) := List.getElem?_set_self (by omega)
  have m2 := scaled_run (a := [4, 6]) (f := 2) ce ⟨by decide, by decide +kernel, by decide⟩
  have m12 := scaled_run (a := [4, 6]) (f := 12) ce ⟨by decide, by decide +kernel, by decide⟩
  rw [l46a] at m2
  rw [l46b] at m12
  have c1 : dOp pEq (dFz (dLst (aCons (dFz (dProp 0 1 m_form_divisors (dFz (dMeth 0 2 "scaled" m_form_scaled (dVar 14) (aCons (dC (.int 2)) aNil))))) (aCons (dFz (dProp 0 1 m_form_divisors (dFz (dMeth 0 2 "scaled" m_form_scaled (dVar 14) (aCons (dC (.int 12)) aNil))))) aNil)))) (dFz (dLst (aCons (dFz (dLst (aCons (dC (.int 2)) (aCons (dC (.int 3)) aNil)))) (aCons (dFz (dLst aNil)) aNil)))) u = .ok (.bl true) u := by
    refine (r_op (r_fz_nl (r_lst (r_a2 (prop_of (a := [2, 3]) (meth_run (r_var v14) rc m2 (by decide +kernel))) (prop_of (a := []) (meth_run (r_var v14) rc m12 (by decide +kernel)))) (by show (2 : Nat) ≤ 100000; decide))) (r_fz_nl (r_lst (r_a2 (r_fz_nl (r_lst (r_a2 rc rc) (by show (2 : Nat) ≤ 100000; decide))) (r_fz_nl (r_lst (ds := []) rfl (by decide)))) (by show (2 : Nat) ≤ 100000; decide)))).trans ?_
    show poK u (pEq _ (.lst [lI [2, 3], lI []]) (.lst [lI [2, 3], lI []])) = _
    rw [eq_two] <;> rfl
  have m5 := spread_run (a := [1]) (f := 5) ce ⟨by decide, by decide +kernel, by decide⟩
  have c2 : dCallO 0 2 m_form_call (dFz (dMeth 0 2 "spread" m_form_spread (dFz (dMake 0 2 k_form_init (aCons (dFz (dLst (aCons (dC (.int 1)) aNil))) aNil))) (aCons (dC (.int 5)) aNil))) (aCons (dC (.int 10)) aNil) u = .ok (.bl true) u := by
    refine (callo_run (L := mS [1] 5) (n := 10) (meth_run (form_run (l := [1]) (r_fz_nl (r_lst (r_a1 rc) (by show (1 : Nat) ≤ 100000; decide))) (by decide +kernel)) rc m5 (by decide +kernel)) rc (by decide) (by decide) (by decide)).trans ?_
    have e : pr (mS [1] 5) 10 = true := by decide +kernel
    rw [e]
  exact ⟨u, (r_seq q1).trans (r_ret ((r_and_t c1).trans c2)), rfl⟩
theorem does_law : Does 15 (D_law m__law_tape m__law_rows m__law_right m__law_next k_form_init m_form_spread m_form_scaled m__law_gcd m__law_odd m_form_divisors m_form_contains m_form_call m__law_holds m_form_eq) m_law := by
  intro ds ce hl
  unfold m_law
  split
  · rename_i xs
    cases e1 : intsD xs with
    | none => trivial
    | some ns =>
      have ex := intsD_eq e1
      subst ex
      by_cases hg : ns.length ≤ 63
      · show DoesK ce _ (if ns.length ≤ 63 then .ok (.bl true) ce else .no)
        rw [if_pos hg]
        let s0 : S := initS 15 [.ro (ns.map D.int)] ce
        have el : dBi (b1 lenD) (aCons (dVar 0) aNil) s0 = .ok (.int (ns.length : Nat)) s0 := by
          rw [r_bi (r_a1 (r_var (i := 0) rfl))]
          show R.ok (.int (((ns.map D.int).length : Nat) : Int)) s0 = _
          rw [List.length_map]
        obtain ⟨n, hn, qi⟩ : ∃ n : Nat, n ≤ 3 ∧ iA rng1 (aCons (dBi (b2 maxD) (aCons (dC (.int 1)) (aCons (dBi (b2 minD) (aCons (dC (.int 3)) (aCons (dBi (b1 lenD) (aCons (dVar 0) aNil)) aNil))) aNil))) aNil) s0 = .ok (rngD 0 n) s0 := by
          have qm : dBi (b2 minD) (aCons (dC (.int 3)) (aCons (dBi (b1 lenD) (aCons (dVar 0) aNil)) aNil)) s0 = .ok (.int (if ((ns.length : Nat) : Int) < 3 then ((ns.length : Nat) : Int) else 3)) s0 := (r_bi (r_a2 rc el)).trans rfl
          have qx := r_bi (pb := b2 maxD) (r_a2 (f := dC (.int 1)) (s := s0) rc qm)
          generalize hz : (if ((ns.length : Nat) : Int) < 3 then ((ns.length : Nat) : Int) else 3) = z at *
          have z1 : 0 ≤ z ∧ z ≤ 3 := by
            rw [← hz]
            split <;> omega
          generalize hw : (if z > 1 then z else 1) = w at *
          have w1 : 1 ≤ w ∧ w ≤ 3 := by
            rw [← hw]
            split <;> omega
          have qy : dBi (b2 maxD) (aCons (dC (.int 1)) (aCons (dBi (b2 minD) (aCons (dC (.int 3)) (aCons (dBi (b1 lenD) (aCons (dVar 0) aNil)) aNil))) aNil)) s0 = .ok (.int w) s0 := by
            refine qx.trans ?_
            show R.ok (.int (if z > 1 then z else 1)) s0 = _
            rw [hw]
          refine ⟨w.toNat, by omega, r_iA (r_a1 qy) ?_⟩
          show (if w.natAbs ≤ 1000000000000 then some (rngD 0 w.toNat) else none) = _
          rw [if_pos (by omega)]
        obtain ⟨s', q4, p1, p2, p3, p4, p5, p6, p7, p8, p9, p10, p11, p12, p13, junk, rfl⟩ := loop_inv (t := tgN 1) (body := sSeq (sSet 2 (dCe (dCall 2 m__law_tape (aCons (dVar 0) (aCons (dVar 1) aNil))))) kB) (fun k s => ∃ p1 p2 p3 p4 p5 p6 p7 p8 p9 p10 p11 p12 p13 junk, s = (⟨[some (.ro (ns.map D.int)), p1, p2, p3, p4, p5, p6, p7, p8, p9, p10, p11, p12, p13, none], ce ++ junk, ce.length⟩ : S)) (rngD 0 n) 0 s0
          ⟨none, none, none, none, none, none, none, none, none, none, none, none, none, [], by rw [List.append_nil] <;> rfl⟩ fun k s d ⟨p1, p2, p3, p4, p5, p6, p7, p8, p9, p10, p11, p12, p13, junk, es⟩ hk hd => by
            subst es
            obtain ⟨i, hi, rfl⟩ := rng_mem hd
            have q1 : sSet 2 (dCe (dCall 2 m__law_tape (aCons (dVar 0) (aCons (dVar 1) aNil)))) (⟨[some (.ro (ns.map D.int)), some (.int ((i : Nat) : Int)), p2, p3, p4, p5, p6, p7, p8, p9, p10, p11, p12, p13, none], ce ++ junk, ce.length⟩ : S) = .nx (W15 (.ro (ns.map D.int)) (some (.int ((i : Nat) : Int))) (ce ++ junk).length p3 p4 p5 p6 p7 p8 p9 p10 p11 p12 p13 ((ce ++ junk) ++ [.lst (tp0 ns i).xs]) ce.length) :=
              r_set (r_ce_nl (r_cnl (r_a2 (r_var (i := 0) rfl) (r_var (i := 1) rfl)) (tape_run _ (by omega)) rfl))
            obtain ⟨y3, y4, y5, y6, y7, y8, y10, y11, y12, y13, T, q2⟩ := k_turn (x0 := .ro (ns.map D.int)) (k := some (.int ((i : Nat) : Int))) (t := p3) (r4 := p4) (x5 := p5) (x6 := p6) (x7 := p7) (x8 := p8) (x9 := p9) (x10 := p10) (x11 := p11) (x12 := p12) (x13 := p13) (n0 := ce.length) (cs := ce ++ junk) (T := tp0 ns i) (tp0_ok ns (by omega)) (by show (0 : Int) + _ < _; decide)
            refine ⟨_, rfl, _, (r_seq q1).trans q2, some (.int ((i : Nat) : Int)), some (.rf (ce ++ junk).length), y3, y4, y5, y6, y7, y8, p9, y10, y11, y12, y13, junk ++ [Cell.lst T.xs], ?_⟩
            show W15 _ _ _ _ _ _ _ _ _ _ _ _ _ _ ((ce ++ junk) ++ [Cell.lst T.xs]) _ = _
            rw [List.append_assoc]
        obtain ⟨sE, q5, q6⟩ := end_run (ps := [some (.ro (ns.map D.int)), p1, p2, p3, p4, p5, p6, p7, p8, p9, p10, p11, p12, p13, none]) (ce := ce ++ junk) (n0 := ce.length) rfl
        exact .inl ⟨_, (r_seq ((r_for qi).trans q4)).trans q5, rfl, Tail.same q6⟩
      · show DoesK ce _ (if ns.length ≤ 63 then .ok (.bl true) ce else .no)
        rw [if_neg hg]
        trivial
  · trivial
end K06
set_option maxRecDepth 100000
set_option maxHeartbeats 4000000
namespace K06
open PySem PySem.Spec PyProof.Rows L2 Dv
section
variable {P : Program} {w : World} {a : Adr} {K : PySem.W.Frag} {mg : Str → Option Value} {base : Heap} {cl : Cl}
theorem all_ok (T : Txt a K mg cl) : FnG P w K mg base (L2.CX P w) 9 a.f_law a.d_law ["script"] (spD K cl 1 m_law) := by
  have g0 := ok_is_integer (P := P) (w := w) (base := base) T does_is_integer
  have g1 := ok_is_number T g0 does_is_number
  have g1f := ok_check_from T g0 does_check_from
  have g2 := ok_check_number T g1f does_check_number
  have g3 := ok_are_divisors T g1 does_are_divisors
  have g4 := ok_odd_times (P := P) (w := w) (base := base) T does_odd_times
  have g7 := ok_form_divisors (P := P) (w := w) (base := base) T does_form_divisors
  have g9 := ok_form_init T g3 does_form_init
  have g10 := ok_form_with T g9 k_form_ok does_form_with
  have g12o := ok_divided_oddly (P := P) (w := w) (base := base) T does_divided_oddly
  have g12 := ok_form_call T g2 g12o does_form_call
  have g13c := ok_form_contains T g1 does_contains
  have g14 := ok_form_eq (P := P) (w := w) (base := base) T does_form_eq
  have g19 := ok_form_scaled T g2 g4 g10 does_form_scaled
  have g20 := ok_form_spread T g2 g10 does_form_spread
  have g21 := ok__law_tape (P := P) (w := w) (base := base) T does_tape
  have g22 := ok__law_next (P := P) (w := w) (base := base) T does_next
  have g23 := ok__law_one T g22 does_one'
  have g24 := ok__law_rows T g22 g23 does_rows
  have g25 := ok__law_gcd (P := P) (w := w) (base := base) T does_gcd
  have g26 := ok__law_odd (P := P) (w := w) (base := base) T does_odd
  have g27 := ok__law_holds (P := P) (w := w) (base := base) T does_holds
  have g28 := ok__law_right T g9 k_form_ok g22 g20 g19 g25 g26 g7 g14 g12 g27 does_right
  exact ok_law T g21 g24 g28 g22 g9 k_form_ok g20 g19 g25 g26 g7 g13c g12 g27 g14 does_law
end
end K06
set_option maxRecDepth 100000
set_option maxHeartbeats 4000000
/-! the head of K06, printed by gen.py -/
namespace K06
open PySem PySem.Spec PyProof.Rows L2 Dv
def spLaw (K : PySem.W.Frag) : Sp := fun vs H Q _ => ∃ (ad : Addr) (ns : List Int), vs = [.ref ad] ∧ SqL K H ad (ns.map V.int) ∧ ns.length ≤ 63 ∧ ∀ H', Q (.bl true) H'
theorem sp_imp {K : PySem.W.Frag} {cl : Cl} (vs : List V) (H : Hp) (Q : VK) (E : XK) (h : spLaw K vs H Q E) : spD K cl 1 m_law vs H Q E := by
  obtain ⟨ad, ns, rfl, hS, hl, k⟩ := h
  refine ⟨rfl, H, [], [], [.ro (ns.map D.int)], Ex.refl H, ⟨rfl, List.nodup_nil, fun j a c h => by cases h⟩, .cons (.ro hS (isL_ints ns)) .nil, ?_⟩
  show spK K cl H H [] Q E (match intsD (ns.map D.int) with
    | some ns => if ns.length ≤ 63 then FR.ok (.bl true) [] else .no
    | none => .no)
  rw [intsD_map]
  show spK K cl H H [] Q E (if ns.length ≤ 63 then FR.ok (.bl true) [] else .no)
  rw [if_pos hl]
  intro v F' H' _ i
  cases i
  exact k _
theorem all_mk {P : Program} {w : World} {K : PySem.W.Frag} {h : Heap} {mg : Str → Option Value} {fa : Addr} (X : K.In h) (G : h.Ns mainGlobals mg) (hfa : mg "law" = some (.ref fa))
    {t_MOST_DIVISORS : Tok}
    {t_DIVISOR_LIMIT : Tok}
    {C : Addr}
    {f_is_integer : Addr} {od_is_integer an_is_integer : Option Addr} {sl_is_integer : Array (Option Value)} {oc_is_integer kV_is_integer dc_is_integer pm_is_integer cd_is_integer ct_is_integer : Value}
    {f_is_number : Addr} {od_is_number an_is_number : Option Addr} {sl_is_number : Array (Option Value)} {oc_is_number kV_is_number dc_is_number pm_is_number cd_is_number ct_is_number : Value}
    {f_check_from : Addr} {od_check_from an_check_from : Option Addr} {sl_check_from : Array (Option Value)} {oc_check_from kV_check_from dc_check_from pm_check_from cd_check_from ct_check_from : Value}
    {f_check_number : Addr} {od_check_number an_check_number : Option Addr} {sl_check_number : Array (Option Value)} {oc_check_number kV_check_number dc_check_number pm_check_number cd_check_number ct_check_number : Value}
    {f_are_divisors : Addr} {od_are_divisors an_are_divisors : Option Addr} {sl_are_divisors : Array (Option Value)} {oc_are_divisors kV_are_divisors dc_are_divisors pm_are_divisors cd_are_divisors ct_are_divisors : Value}
    {f_divided_oddly : Addr} {od_divided_oddly an_divided_oddly : Option Addr} {sl_divided_oddly : Array (Option Value)} {oc_divided_oddly kV_divided_oddly dc_divided_oddly pm_divided_oddly cd_divided_oddly ct_divided_oddly : Value}
    {f_odd_times : Addr} {od_odd_times an_odd_times : Option Addr} {sl_odd_times : Array (Option Value)} {oc_odd_times kV_odd_times dc_odd_times pm_odd_times cd_odd_times ct_odd_times : Value}
    {f_alone : Addr} {od_alone an_alone : Option Addr} {sl_alone : Array (Option Value)} {oc_alone kV_alone dc_alone pm_alone cd_alone ct_alone : Value}
    {f_common : Addr} {od_common an_common : Option Addr} {sl_common : Array (Option Value)} {oc_common kV_common dc_common pm_common cd_common ct_common : Value}
    {f_divisors_of : Addr} {od_divisors_of an_divisors_of : Option Addr} {sl_divisors_of : Array (Option Value)} {oc_divisors_of kV_divisors_of dc_divisors_of pm_divisors_of cd_divisors_of ct_divisors_of : Value}
    {f_form_with : Addr} {od_form_with an_form_with : Option Addr} {sl_form_with : Array (Option Value)} {oc_form_with kV_form_with dc_form_with pm_form_with cd_form_with ct_form_with : Value}
    {f_limited_form : Addr} {od_limited_form an_limited_form : Option Addr} {sl_limited_form : Array (Option Value)} {oc_limited_form kV_limited_form dc_limited_form pm_limited_form cd_limited_form ct_limited_form : Value}
    {f_form_init : Addr} {od_form_init an_form_init : Option Addr} {sl_form_init : Array (Option Value)} {oc_form_init kV_form_init dc_form_init pm_form_init cd_form_init ct_form_init : Value}
    {f_form_divisors : Addr} {od_form_divisors an_form_divisors : Option Addr} {sl_form_divisors : Array (Option Value)} {oc_form_divisors kV_form_divisors dc_form_divisors pm_form_divisors cd_form_divisors ct_form_divisors : Value}
    {p_form_divisors : Addr} {pr_form_divisors : List Value}
    {f_form_call : Addr} {od_form_call an_form_call : Option Addr} {sl_form_call : Array (Option Value)} {oc_form_call kV_form_call dc_form_call pm_form_call cd_form_call ct_form_call : Value}
    {f_form_len : Addr} {od_form_len an_form_len : Option Addr} {sl_form_len : Array (Option Value)} {oc_form_len kV_form_len dc_form_len pm_form_len cd_form_len ct_form_len : Value}
    {f_form_contains : Addr} {od_form_contains an_form_contains : Option Addr} {sl_form_contains : Array (Option Value)} {oc_form_contains kV_form_contains dc_form_contains pm_form_contains cd_form_contains ct_form_contains : Value}
    {f_form_eq : Addr} {od_form_eq an_form_eq : Option Addr} {sl_form_eq : Array (Option Value)} {oc_form_eq kV_form_eq dc_form_eq pm_form_eq cd_form_eq ct_form_eq : Value}
    {f_form_xor : Addr} {od_form_xor an_form_xor : Option Addr} {sl_form_xor : Array (Option Value)} {oc_form_xor kV_form_xor dc_form_xor pm_form_xor cd_form_xor ct_form_xor : Value}
    {f_form_and : Addr} {od_form_and an_form_and : Option Addr} {sl_form_and : Array (Option Value)} {oc_form_and kV_form_and dc_form_and pm_form_and cd_form_and ct_form_and : Value}
    {f_form_or : Addr} {od_form_or an_form_or : Option Addr} {sl_form_or : Array (Option Value)} {oc_form_or kV_form_or dc_form_or pm_form_or cd_form_or ct_form_or : Value}
    {f_form_invert : Addr} {od_form_invert an_form_invert : Option Addr} {sl_form_invert : Array (Option Value)} {oc_form_invert kV_form_invert dc_form_invert pm_form_invert cd_form_invert ct_form_invert : Value}
    {f_form_scaled : Addr} {od_form_scaled an_form_scaled : Option Addr} {sl_form_scaled : Array (Option Value)} {oc_form_scaled kV_form_scaled dc_form_scaled pm_form_scaled cd_form_scaled ct_form_scaled : Value}
    {f_form_spread : Addr} {od_form_spread an_form_spread : Option Addr} {sl_form_spread : Array (Option Value)} {oc_form_spread kV_form_spread dc_form_spread pm_form_spread cd_form_spread ct_form_spread : Value}
    {f__law_tape : Addr} {od__law_tape an__law_tape : Option Addr} {sl__law_tape : Array (Option Value)} {oc__law_tape kV__law_tape dc__law_tape pm__law_tape cd__law_tape ct__law_tape : Value}
    {f__law_next : Addr} {od__law_next an__law_next : Option Addr} {sl__law_next : Array (Option Value)} {oc__law_next kV__law_next dc__law_next pm__law_next cd__law_next ct__law_next : Value}
    {f__law_gcd : Addr} {od__law_gcd an__law_gcd : Option Addr} {sl__law_gcd : Array (Option Value)} {oc__law_gcd kV__law_gcd dc__law_gcd pm__law_gcd cd__law_gcd ct__law_gcd : Value}
    {f__law_odd : Addr} {od__law_odd an__law_odd : Option Addr} {sl__law_odd : Array (Option Value)} {oc__law_odd kV__law_odd dc__law_odd pm__law_odd cd__law_odd ct__law_odd : Value}
    {f__law_holds : Addr} {od__law_holds an__law_holds : Option Addr} {sl__law_holds : Array (Option Value)} {oc__law_holds kV__law_holds dc__law_holds pm__law_holds cd__law_holds ct__law_holds : Value}
    {f__law_one : Addr} {od__law_one an__law_one : Option Addr} {sl__law_one : Array (Option Value)} {oc__law_one kV__law_one dc__law_one pm__law_one cd__law_one ct__law_one : Value}
    {f__law_rows : Addr} {od__law_rows an__law_rows : Option Addr} {sl__law_rows : Array (Option Value)} {oc__law_rows kV__law_rows dc__law_rows pm__law_rows cd__law_rows ct__law_rows : Value}
    {f__law_right : Addr} {od__law_right an__law_right : Option Addr} {sl__law_right : Array (Option Value)} {oc__law_right kV__law_right dc__law_right pm__law_right cd__law_right ct__law_right : Value}
    {f_law : Addr} {od_law an_law : Option Addr} {sl_law : Array (Option Value)} {oc_law kV_law dc_law pm_law cd_law ct_law : Value}
    (hz_abs : PySem.W.nsIn K mainGlobals "abs" = some none)
    (hz_all : PySem.W.nsIn K mainGlobals "all" = some none)
    (hz_bool : PySem.W.nsIn K mainGlobals "bool" = some none)
    (hz_int : PySem.W.nsIn K mainGlobals "int" = some none)
    (hz_isinstance : PySem.W.nsIn K mainGlobals "isinstance" = some none)
    (hz_len : PySem.W.nsIn K mainGlobals "len" = some none)
    (hz_list : PySem.W.nsIn K mainGlobals "list" = some none)
    (hz_max : PySem.W.nsIn K mainGlobals "max" = some none)
    (hz_min : PySem.W.nsIn K mainGlobals "min" = some none)
    (hz_range : PySem.W.nsIn K mainGlobals "range" = some none)
    (hz_repr : PySem.W.nsIn K mainGlobals "repr" = some none)
    (hz_set : PySem.W.nsIn K mainGlobals "set" = some none)
    (hz_sorted : PySem.W.nsIn K mainGlobals "sorted" = some none)
    (hz_zip : PySem.W.nsIn K mainGlobals "zip" = some none)
    (g_MOST_DIVISORS : PySem.W.nsIn K mainGlobals "MOST_DIVISORS" = some (some (.int 200 t_MOST_DIVISORS)))
    (g_DIVISOR_LIMIT : PySem.W.nsIn K mainGlobals "DIVISOR_LIMIT" = some (some (.int 100000000000000000000 t_DIVISOR_LIMIT)))
    (g_gcd : PySem.W.nsIn K mainGlobals "gcd" = some (some (.builtin "math.gcd")))
    (g_lcm : PySem.W.nsIn K mainGlobals "lcm" = some (some (.builtin "math.lcm")))
    (aC : PySem.W.nsIn K mainGlobals "Form" = some (some (.ref C)))
    (pg : PySem.W.plainGet K C Str.empty = true)
    (hd : PySem.W.hasDictIn K C = true)
    (po : PySem.W.plainOver K C = true)
    (sa : PySem.W.findIn K (.ref C) "__setattr__" = some (some (.builtin "object.__setattr__")))
    (mk : PySem.W.makesIn K C = true)
    (kc : PySem.W.keepIn K (.ref C) = true)
    (oa : PySem.W.findIn K (.ref C) "__class__" = some (some (.builtin "object.__class__")))
    (on : PySem.W.specialIn K (.builtin "object.__class__") "__get__" = some (some (.builtin "getset_descriptor.__get__")))
    (ot : PySem.W.takesIn K (.builtin "object.__class__") = some true)
    (om : PySem.W.mroIn K C (.type "object") = some true)
    (sf : PySem.W.selfFirst K C = true)
    (nf : PySem.W.notFirst K C (.ref C) = true)
    (na__held : PySem.W.findIn K (.ref C) "_held" = some none)
    (a_is_integer : PySem.W.nsIn K mainGlobals "is_integer" = some (some (.ref f_is_integer)))
    (l_is_integer : K.lookup f_is_integer = some ⟨oc_is_integer, od_is_integer, .func (PySem.W.fnOf "is_integer" "is_integer" (defArgs s_is_integer) (defBody s_is_integer) (defScope s_is_integer) .none kV_is_integer dc_is_integer pm_is_integer an_is_integer cd_is_integer ct_is_integer), sl_is_integer⟩)
    (c_is_integer : PySem.W.codeIn K cd_is_integer "is_integer" = true)
    (k_is_integer : PySem.W.keepIn K (.ref f_is_integer) = true)
    (a_is_number : PySem.W.nsIn K mainGlobals "is_number" = some (some (.ref f_is_number)))
    (l_is_number : K.lookup f_is_number = some ⟨oc_is_number, od_is_number, .func (PySem.W.fnOf "is_number" "is_number" (defArgs s_is_number) (defBody s_is_number) (defScope s_is_number) .none kV_is_number dc_is_number pm_is_number an_is_number cd_is_number ct_is_number), sl_is_number⟩)
    (c_is_number : PySem.W.codeIn K cd_is_number "is_number" = true)
    (k_is_number : PySem.W.keepIn K (.ref f_is_number) = true)
    (a_check_from : PySem.W.nsIn K mainGlobals "check_from" = some (some (.ref f_check_from)))
    (l_check_from : K.lookup f_check_from = some ⟨oc_check_from, od_check_from, .func (PySem.W.fnOf "check_from" "check_from" (defArgs s_check_from) (defBody s_check_from) (defScope s_check_from) .none kV_check_from dc_check_from pm_check_from an_check_from cd_check_from ct_check_from), sl_check_from⟩)
    (c_check_from : PySem.W.codeIn K cd_check_from "check_from" = true)
    (k_check_from : PySem.W.keepIn K (.ref f_check_from) = true)
    (a_check_number : PySem.W.nsIn K mainGlobals "check_number" = some (some (.ref f_check_number)))
    (l_check_number : K.lookup f_check_number = some ⟨oc_check_number, od_check_number, .func (PySem.W.fnOf "check_number" "check_number" (defArgs s_check_number) (defBody s_check_number) (defScope s_check_number) .none kV_check_number dc_check_number pm_check_number an_check_number cd_check_number ct_check_number), sl_check_number⟩)
    (c_check_number : PySem.W.codeIn K cd_check_number "check_number" = true)
    (k_check_number : PySem.W.keepIn K (.ref f_check_number) = true)
    (a_are_divisors : PySem.W.nsIn K mainGlobals "are_divisors" = some (some (.ref f_are_divisors)))
    (l_are_divisors : K.lookup f_are_divisors = some ⟨oc_are_divisors, od_are_divisors, .func (PySem.W.fnOf "are_divisors" "are_divisors" (defArgs s_are_divisors) (defBody s_are_divisors) (defScope s_are_divisors) .none kV_are_divisors dc_are_divisors pm_are_divisors an_are_divisors cd_are_divisors ct_are_divisors), sl_are_divisors⟩)
    (c_are_divisors : PySem.W.codeIn K cd_are_divisors "are_divisors" = true)
    (k_are_divisors : PySem.W.keepIn K (.ref f_are_divisors) = true)
    (a_divided_oddly : PySem.W.nsIn K mainGlobals "divided_oddly" = some (some (.ref f_divided_oddly)))
    (l_divided_oddly : K.lookup f_divided_oddly = some ⟨oc_divided_oddly, od_divided_oddly, .func (PySem.W.fnOf "divided_oddly" "divided_oddly" (defArgs s_divided_oddly) (defBody s_divided_oddly) (defScope s_divided_oddly) .none kV_divided_oddly dc_divided_oddly pm_divided_oddly an_divided_oddly cd_divided_oddly ct_divided_oddly), sl_divided_oddly⟩)
    (c_divided_oddly : PySem.W.codeIn K cd_divided_oddly "divided_oddly" = true)
    (k_divided_oddly : PySem.W.keepIn K (.ref f_divided_oddly) = true)
    (a_odd_times : PySem.W.nsIn K mainGlobals "odd_times" = some (some (.ref f_odd_times)))
    (l_odd_times : K.lookup f_odd_times = some ⟨oc_odd_times, od_odd_times, .func (PySem.W.fnOf "odd_times" "odd_times" (defArgs s_odd_times) (defBody s_odd_times) (defScope s_odd_times) .none kV_odd_times dc_odd_times pm_odd_times an_odd_times cd_odd_times ct_odd_times), sl_odd_times⟩)
    (c_odd_times : PySem.W.codeIn K cd_odd_times "odd_times" = true)
    (k_odd_times : PySem.W.keepIn K (.ref f_odd_times) = true)
    (a_alone : PySem.W.nsIn K mainGlobals "alone" = some (some (.ref f_alone)))
    (l_alone : K.lookup f_alone = some ⟨oc_alone, od_alone, .func (PySem.W.fnOf "alone" "alone" (defArgs s_alone) (defBody s_alone) (defScope s_alone) .none kV_alone dc_alone pm_alone an_alone cd_alone ct_alone), sl_alone⟩)
    (c_alone : PySem.W.codeIn K cd_alone "alone" = true)
    (k_alone : PySem.W.keepIn K (.ref f_alone) = true)
    (a_common : PySem.W.nsIn K mainGlobals "common" = some (some (.ref f_common)))
    (l_common : K.lookup f_common = some ⟨oc_common, od_common, .func (PySem.W.fnOf "common" "common" (defArgs s_common) (defBody s_common) (defScope s_common) .none kV_common dc_common pm_common an_common cd_common ct_common), sl_common⟩)
    (c_common : PySem.W.codeIn K cd_common "common" = true)
    (k_common : PySem.W.keepIn K (.ref f_common) = true)
    (a_divisors_of : PySem.W.nsIn K mainGlobals "divisors_of" = some (some (.ref f_divisors_of)))
    (l_divisors_of : K.lookup f_divisors_of = some ⟨oc_divisors_of, od_divisors_of, .func (PySem.W.fnOf "divisors_of" "divisors_of" (defArgs s_divisors_of) (defBody s_divisors_of) (defScope s_divisors_of) .none kV_divisors_of dc_divisors_of pm_divisors_of an_divisors_of cd_divisors_of ct_divisors_of), sl_divisors_of⟩)
    (c_divisors_of : PySem.W.codeIn K cd_divisors_of "divisors_of" = true)
    (k_divisors_of : PySem.W.keepIn K (.ref f_divisors_of) = true)
    (a_form_with : PySem.W.nsIn K mainGlobals "form_with" = some (some (.ref f_form_with)))
    (l_form_with : K.lookup f_form_with = some ⟨oc_form_with, od_form_with, .func (PySem.W.fnOf "form_with" "form_with" (defArgs s_form_with) (defBody s_form_with) (defScope s_form_with) .none kV_form_with dc_form_with pm_form_with an_form_with cd_form_with ct_form_with), sl_form_with⟩)
    (c_form_with : PySem.W.codeIn K cd_form_with "form_with" = true)
    (k_form_with : PySem.W.keepIn K (.ref f_form_with) = true)
    (a_limited_form : PySem.W.nsIn K mainGlobals "limited_form" = some (some (.ref f_limited_form)))
    (l_limited_form : K.lookup f_limited_form = some ⟨oc_limited_form, od_limited_form, .func (PySem.W.fnOf "limited_form" "limited_form" (defArgs s_limited_form) (defBody s_limited_form) (defScope s_limited_form) .none kV_limited_form dc_limited_form pm_limited_form an_limited_form cd_limited_form ct_limited_form), sl_limited_form⟩)
    (c_limited_form : PySem.W.codeIn K cd_limited_form "limited_form" = true)
    (k_limited_form : PySem.W.keepIn K (.ref f_limited_form) = true)
    (a_form_init : PySem.W.findIn K (.ref C) "__init__" = some (some (.ref f_form_init)))
    (i_form_init : PySem.W.isFn K (.ref f_form_init) = true)
    (l_form_init : K.lookup f_form_init = some ⟨oc_form_init, od_form_init, .func (PySem.W.fnOf "__init__" "Form.__init__" (defArgs s_form_init) (defBody s_form_init) (defScope s_form_init) .none kV_form_init dc_form_init pm_form_init an_form_init cd_form_init ct_form_init), sl_form_init⟩)
    (c_form_init : PySem.W.codeIn K cd_form_init "Form.__init__" = true)
    (k_form_init : PySem.W.keepIn K (.ref f_form_init) = true)
    (a_form_divisors : PySem.W.findIn K (.ref C) "divisors" = some (some (.ref p_form_divisors)))
    (pg_form_divisors : PySem.W.specialIn K (.ref p_form_divisors) "__get__" = some (some (.builtin "property.__get__")))
    (pt_form_divisors : PySem.W.takesIn K (.ref p_form_divisors) = some true)
    (pr_form_divisors : PySem.W.recIn K p_form_divisors "property" = some (.ref f_form_divisors :: pr_form_divisors))
    (l_form_divisors : K.lookup f_form_divisors = some ⟨oc_form_divisors, od_form_divisors, .func (PySem.W.fnOf "divisors" "Form.divisors" (defArgs s_form_divisors) (defBody s_form_divisors) (defScope s_form_divisors) .none kV_form_divisors dc_form_divisors pm_form_divisors an_form_divisors cd_form_divisors ct_form_divisors), sl_form_divisors⟩)
    (c_form_divisors : PySem.W.codeIn K cd_form_divisors "Form.divisors" = true)
    (k_form_divisors : PySem.W.keepIn K (.ref f_form_divisors) = true)
    (a_form_call : PySem.W.findIn K (.ref C) "__call__" = some (some (.ref f_form_call)))
    (i_form_call : PySem.W.isFn K (.ref f_form_call) = true)
    (n_form_call : PySem.W.fnIn K f_form_call = true)
    (l_form_call : K.lookup f_form_call = some ⟨oc_form_call, od_form_call, .func (PySem.W.fnOf "__call__" "Form.__call__" (defArgs s_form_call) (defBody s_form_call) (defScope s_form_call) .none kV_form_call dc_form_call pm_form_call an_form_call cd_form_call ct_form_call), sl_form_call⟩)
    (c_form_call : PySem.W.codeIn K cd_form_call "Form.__call__" = true)
    (k_form_call : PySem.W.keepIn K (.ref f_form_call) = true)
    (a_form_len : PySem.W.findIn K (.ref C) "__len__" = some (some (.ref f_form_len)))
    (i_form_len : PySem.W.isFn K (.ref f_form_len) = true)
    (l_form_len : K.lookup f_form_len = some ⟨oc_form_len, od_form_len, .func (PySem.W.fnOf "__len__" "Form.__len__" (defArgs s_form_len) (defBody s_form_len) (defScope s_form_len) .none kV_form_len dc_form_len pm_form_len an_form_len cd_form_len ct_form_len), sl_form_len⟩)
    (c_form_len : PySem.W.codeIn K cd_form_len "Form.__len__" = true)
    (k_form_len : PySem.W.keepIn K (.ref f_form_len) = true)
    (a_form_contains : PySem.W.findIn K (.ref C) "__contains__" = some (some (.ref f_form_contains)))
    (i_form_contains : PySem.W.isFn K (.ref f_form_contains) = true)
    (l_form_contains : K.lookup f_form_contains = some ⟨oc_form_contains, od_form_contains, .func (PySem.W.fnOf "__contains__" "Form.__contains__" (defArgs s_form_contains) (defBody s_form_contains) (defScope s_form_contains) .none kV_form_contains dc_form_contains pm_form_contains an_form_contains cd_form_contains ct_form_contains), sl_form_contains⟩)
    (c_form_contains : PySem.W.codeIn K cd_form_contains "Form.__contains__" = true)
    (k_form_contains : PySem.W.keepIn K (.ref f_form_contains) = true)
    (a_form_eq : PySem.W.findIn K (.ref C) "__eq__" = some (some (.ref f_form_eq)))
    (i_form_eq : PySem.W.isFn K (.ref f_form_eq) = true)
    (l_form_eq : K.lookup f_form_eq = some ⟨oc_form_eq, od_form_eq, .func (PySem.W.fnOf "__eq__" "Form.__eq__" (defArgs s_form_eq) (defBody s_form_eq) (defScope s_form_eq) .none kV_form_eq dc_form_eq pm_form_eq an_form_eq cd_form_eq ct_form_eq), sl_form_eq⟩)
    (c_form_eq : PySem.W.codeIn K cd_form_eq "Form.__eq__" = true)
    (k_form_eq : PySem.W.keepIn K (.ref f_form_eq) = true)
    (a_form_xor : PySem.W.findIn K (.ref C) "__xor__" = some (some (.ref f_form_xor)))
    (i_form_xor : PySem.W.isFn K (.ref f_form_xor) = true)
    (l_form_xor : K.lookup f_form_xor = some ⟨oc_form_xor, od_form_xor, .func (PySem.W.fnOf "__xor__" "Form.__xor__" (defArgs s_form_xor) (defBody s_form_xor) (defScope s_form_xor) .none kV_form_xor dc_form_xor pm_form_xor an_form_xor cd_form_xor ct_form_xor), sl_form_xor⟩)
    (c_form_xor : PySem.W.codeIn K cd_form_xor "Form.__xor__" = true)
    (k_form_xor : PySem.W.keepIn K (.ref f_form_xor) = true)
    (a_form_and : PySem.W.findIn K (.ref C) "__and__" = some (some (.ref f_form_and)))
    (i_form_and : PySem.W.isFn K (.ref f_form_and) = true)
    (l_form_and : K.lookup f_form_and = some ⟨oc_form_and, od_form_and, .func (PySem.W.fnOf "__and__" "Form.__and__" (defArgs s_form_and) (defBody s_form_and) (defScope s_form_and) .none kV_form_and dc_form_and pm_form_and an_form_and cd_form_and ct_form_and), sl_form_and⟩)
    (c_form_and : PySem.W.codeIn K cd_form_and "Form.__and__" = true)
    (k_form_and : PySem.W.keepIn K (.ref f_form_and) = true)
    (a_form_or : PySem.W.findIn K (.ref C) "__or__" = some (some (.ref f_form_or)))
    (i_form_or : PySem.W.isFn K (.ref f_form_or) = true)
    (l_form_or : K.lookup f_form_or = some ⟨oc_form_or, od_form_or, .func (PySem.W.fnOf "__or__" "Form.__or__" (defArgs s_form_or) (defBody s_form_or) (defScope s_form_or) .none kV_form_or dc_form_or pm_form_or an_form_or cd_form_or ct_form_or), sl_form_or⟩)
    (c_form_or : PySem.W.codeIn K cd_form_or "Form.__or__" = true)
    (k_form_or : PySem.W.keepIn K (.ref f_form_or) = true)
    (a_form_invert : PySem.W.findIn K (.ref C) "__invert__" = some (some (.ref f_form_invert)))
    (i_form_invert : PySem.W.isFn K (.ref f_form_invert) = true)
    (l_form_invert : K.lookup f_form_invert = some ⟨oc_form_invert, od_form_invert, .func (PySem.W.fnOf "__invert__" "Form.__invert__" (defArgs s_form_invert) (defBody s_form_invert) (defScope s_form_invert) .none kV_form_invert dc_form_invert pm_form_invert an_form_invert cd_form_invert ct_form_invert), sl_form_invert⟩)
    (c_form_invert : PySem.W.codeIn K cd_form_invert "Form.__invert__" = true)
    (k_form_invert : PySem.W.keepIn K (.ref f_form_invert) = true)
    (a_form_scaled : PySem.W.findIn K (.ref C) "scaled" = some (some (.ref f_form_scaled)))
    (i_form_scaled : PySem.W.isFn K (.ref f_form_scaled) = true)
    (l_form_scaled : K.lookup f_form_scaled = some ⟨oc_form_scaled, od_form_scaled, .func (PySem.W.fnOf "scaled" "Form.scaled" (defArgs s_form_scaled) (defBody s_form_scaled) (defScope s_form_scaled) .none kV_form_scaled dc_form_scaled pm_form_scaled an_form_scaled cd_form_scaled ct_form_scaled), sl_form_scaled⟩)
    (c_form_scaled : PySem.W.codeIn K cd_form_scaled "Form.scaled" = true)
    (k_form_scaled : PySem.W.keepIn K (.ref f_form_scaled) = true)
    (a_form_spread : PySem.W.findIn K (.ref C) "spread" = some (some (.ref f_form_spread)))
    (i_form_spread : PySem.W.isFn K (.ref f_form_spread) = true)
    (l_form_spread : K.lookup f_form_spread = some ⟨oc_form_spread, od_form_spread, .func (PySem.W.fnOf "spread" "Form.spread" (defArgs s_form_spread) (defBody s_form_spread) (defScope s_form_spread) .none kV_form_spread dc_form_spread pm_form_spread an_form_spread cd_form_spread ct_form_spread), sl_form_spread⟩)
    (c_form_spread : PySem.W.codeIn K cd_form_spread "Form.spread" = true)
    (k_form_spread : PySem.W.keepIn K (.ref f_form_spread) = true)
    (a__law_tape : PySem.W.nsIn K mainGlobals "_law_tape" = some (some (.ref f__law_tape)))
    (l__law_tape : K.lookup f__law_tape = some ⟨oc__law_tape, od__law_tape, .func (PySem.W.fnOf "_law_tape" "_law_tape" (defArgs s__law_tape) (defBody s__law_tape) (defScope s__law_tape) .none kV__law_tape dc__law_tape pm__law_tape an__law_tape cd__law_tape ct__law_tape), sl__law_tape⟩)
    (c__law_tape : PySem.W.codeIn K cd__law_tape "_law_tape" = true)
    (k__law_tape : PySem.W.keepIn K (.ref f__law_tape) = true)
    (a__law_next : PySem.W.nsIn K mainGlobals "_law_next" = some (some (.ref f__law_next)))
    (l__law_next : K.lookup f__law_next = some ⟨oc__law_next, od__law_next, .func (PySem.W.fnOf "_law_next" "_law_next" (defArgs s__law_next) (defBody s__law_next) (defScope s__law_next) .none kV__law_next dc__law_next pm__law_next an__law_next cd__law_next ct__law_next), sl__law_next⟩)
    (c__law_next : PySem.W.codeIn K cd__law_next "_law_next" = true)
    (k__law_next : PySem.W.keepIn K (.ref f__law_next) = true)
    (a__law_gcd : PySem.W.nsIn K mainGlobals "_law_gcd" = some (some (.ref f__law_gcd)))
    (l__law_gcd : K.lookup f__law_gcd = some ⟨oc__law_gcd, od__law_gcd, .func (PySem.W.fnOf "_law_gcd" "_law_gcd" (defArgs s__law_gcd) (defBody s__law_gcd) (defScope s__law_gcd) .none kV__law_gcd dc__law_gcd pm__law_gcd an__law_gcd cd__law_gcd ct__law_gcd), sl__law_gcd⟩)
    (c__law_gcd : PySem.W.codeIn K cd__law_gcd "_law_gcd" = true)
    (k__law_gcd : PySem.W.keepIn K (.ref f__law_gcd) = true)
    (a__law_odd : PySem.W.nsIn K mainGlobals "_law_odd" = some (some (.ref f__law_odd)))
    (l__law_odd : K.lookup f__law_odd = some ⟨oc__law_odd, od__law_odd, .func (PySem.W.fnOf "_law_odd" "_law_odd" (defArgs s__law_odd) (defBody s__law_odd) (defScope s__law_odd) .none kV__law_odd dc__law_odd pm__law_odd an__law_odd cd__law_odd ct__law_odd), sl__law_odd⟩)
    (c__law_odd : PySem.W.codeIn K cd__law_odd "_law_odd" = true)
    (k__law_odd : PySem.W.keepIn K (.ref f__law_odd) = true)
    (a__law_holds : PySem.W.nsIn K mainGlobals "_law_holds" = some (some (.ref f__law_holds)))
    (l__law_holds : K.lookup f__law_holds = some ⟨oc__law_holds, od__law_holds, .func (PySem.W.fnOf "_law_holds" "_law_holds" (defArgs s__law_holds) (defBody s__law_holds) (defScope s__law_holds) .none kV__law_holds dc__law_holds pm__law_holds an__law_holds cd__law_holds ct__law_holds), sl__law_holds⟩)
    (c__law_holds : PySem.W.codeIn K cd__law_holds "_law_holds" = true)
    (k__law_holds : PySem.W.keepIn K (.ref f__law_holds) = true)
    (a__law_one : PySem.W.nsIn K mainGlobals "_law_one" = some (some (.ref f__law_one)))
    (l__law_one : K.lookup f__law_one = some ⟨oc__law_one, od__law_one, .func (PySem.W.fnOf "_law_one" "_law_one" (defArgs s__law_one) (defBody s__law_one) (defScope s__law_one) .none kV__law_one dc__law_one pm__law_one an__law_one cd__law_one ct__law_one), sl__law_one⟩)
    (c__law_one : PySem.W.codeIn K cd__law_one "_law_one" = true)
    (k__law_one : PySem.W.keepIn K (.ref f__law_one) = true)
    (a__law_rows : PySem.W.nsIn K mainGlobals "_law_rows" = some (some (.ref f__law_rows)))
    (l__law_rows : K.lookup f__law_rows = some ⟨oc__law_rows, od__law_rows, .func (PySem.W.fnOf "_law_rows" "_law_rows" (defArgs s__law_rows) (defBody s__law_rows) (defScope s__law_rows) .none kV__law_rows dc__law_rows pm__law_rows an__law_rows cd__law_rows ct__law_rows), sl__law_rows⟩)
    (c__law_rows : PySem.W.codeIn K cd__law_rows "_law_rows" = true)
    (k__law_rows : PySem.W.keepIn K (.ref f__law_rows) = true)
    (a__law_right : PySem.W.nsIn K mainGlobals "_law_right" = some (some (.ref f__law_right)))
    (l__law_right : K.lookup f__law_right = some ⟨oc__law_right, od__law_right, .func (PySem.W.fnOf "_law_right" "_law_right" (defArgs s__law_right) (defBody s__law_right) (defScope s__law_right) .none kV__law_right dc__law_right pm__law_right an__law_right cd__law_right ct__law_right), sl__law_right⟩)
    (c__law_right : PySem.W.codeIn K cd__law_right "_law_right" = true)
    (k__law_right : PySem.W.keepIn K (.ref f__law_right) = true)
    (a_law : PySem.W.nsIn K mainGlobals "law" = some (some (.ref f_law)))
    (l_law : K.lookup f_law = some ⟨oc_law, od_law, .func (PySem.W.fnOf "law" "law" (defArgs s_law) (defBody s_law) (defScope s_law) .none kV_law dc_law pm_law an_law cd_law ct_law), sl_law⟩)
    (c_law : PySem.W.codeIn K cd_law "law" = true)
    (k_law : PySem.W.keepIn K (.ref f_law) = true)
    : ∃ fd : FuncData, (∀ (s : Shared) (v : Value), BindsTo s fd ⟨[v], []⟩ [("script", v)]) ∧ ∀ base : Heap, K.In base → base.Ns mainGlobals mg → FnG P w K mg base (L2.CX P w) 9 fa fd ["script"] (spLaw K) := by
  have e := (PySem.W.mg_of X G a_law).symm.trans hfa
  cases e
  let a : Adr := {
    f_is_integer := f_is_integer, d_is_integer := PySem.W.fnOf "is_integer" "is_integer" (defArgs s_is_integer) (defBody s_is_integer) (defScope s_is_integer) .none kV_is_integer dc_is_integer pm_is_integer an_is_integer cd_is_integer ct_is_integer,
    f_is_number := f_is_number, d_is_number := PySem.W.fnOf "is_number" "is_number" (defArgs s_is_number) (defBody s_is_number) (defScope s_is_number) .none kV_is_number dc_is_number pm_is_number an_is_number cd_is_number ct_is_number,
    f_check_from := f_check_from, d_check_from := PySem.W.fnOf "check_from" "check_from" (defArgs s_check_from) (defBody s_check_from) (defScope s_check_from) .none kV_check_from dc_check_from pm_check_from an_check_from cd_check_from ct_check_from,
    f_check_number := f_check_number, d_check_number := PySem.W.fnOf "check_number" "check_number" (defArgs s_check_number) (defBody s_check_number) (defScope s_check_number) .none kV_check_number dc_check_number pm_check_number an_check_number cd_check_number ct_check_number,
    f_are_divisors := f_are_divisors, d_are_divisors := PySem.W.fnOf "are_divisors" "are_divisors" (defArgs s_are_divisors) (defBody s_are_divisors) (defScope s_are_divisors) .none kV_are_divisors dc_are_divisors pm_are_divisors an_are_divisors cd_are_divisors ct_are_divisors,
    f_divided_oddly := f_divided_oddly, d_divided_oddly := PySem.W.fnOf "divided_oddly" "divided_oddly" (defArgs s_divided_oddly) (defBody s_divided_oddly) (defScope s_divided_oddly) .none kV_divided_oddly dc_divided_oddly pm_divided_oddly an_divided_oddly cd_divided_oddly ct_divided_oddly,
    f_odd_times := f_odd_times, d_odd_times := PySem.W.fnOf "odd_times" "odd_times" (defArgs s_odd_times) (defBody s_odd_times) (defScope s_odd_times) .none kV_odd_times dc_odd_times pm_odd_times an_odd_times cd_odd_times ct_odd_times,
    f_alone := f_alone, d_alone := PySem.W.fnOf "alone" "alone" (defArgs s_alone) (defBody s_alone) (defScope s_alone) .none kV_alone dc_alone pm_alone an_alone cd_alone ct_alone,
    f_common := f_common, d_common := PySem.W.fnOf "common" "common" (defArgs s_common) (defBody s_common) (defScope s_common) .none kV_common dc_common pm_common an_common cd_common ct_common,
    f_divisors_of := f_divisors_of, d_divisors_of := PySem.W.fnOf "divisors_of" "divisors_of" (defArgs s_divisors_of) (defBody s_divisors_of) (defScope s_divisors_of) .none kV_divisors_of dc_divisors_of pm_divisors_of an_divisors_of cd_divisors_of ct_divisors_of,
    f_form_with := f_form_with, d_form_with := PySem.W.fnOf "form_with" "form_with" (defArgs s_form_with) (defBody s_form_with) (defScope s_form_with) .none kV_form_with dc_form_with pm_form_with an_form_with cd_form_with ct_form_with,
    f_limited_form := f_limited_form, d_limited_form := PySem.W.fnOf "limited_form" "limited_form" (defArgs s_limited_form) (defBody s_limited_form) (defScope s_limited_form) .none kV_limited_form dc_limited_form pm_limited_form an_limited_form cd_limited_form ct_limited_form,
    f_form_init := f_form_init, d_form_init := PySem.W.fnOf "__init__" "Form.__init__" (defArgs s_form_init) (defBody s_form_init) (defScope s_form_init) .none kV_form_init dc_form_init pm_form_init an_form_init cd_form_init ct_form_init,
    f_form_divisors := f_form_divisors, d_form_divisors := PySem.W.fnOf "divisors" "Form.divisors" (defArgs s_form_divisors) (defBody s_form_divisors) (defScope s_form_divisors) .none kV_form_divisors dc_form_divisors pm_form_divisors an_form_divisors cd_form_divisors ct_form_divisors,
    p_form_divisors := p_form_divisors,
    f_form_call := f_form_call, d_form_call := PySem.W.fnOf "__call__" "Form.__call__" (defArgs s_form_call) (defBody s_form_call) (defScope s_form_call) .none kV_form_call dc_form_call pm_form_call an_form_call cd_form_call ct_form_call,
    f_form_len := f_form_len, d_form_len := PySem.W.fnOf "__len__" "Form.__len__" (defArgs s_form_len) (defBody s_form_len) (defScope s_form_len) .none kV_form_len dc_form_len pm_form_len an_form_len cd_form_len ct_form_len,
    f_form_contains := f_form_contains, d_form_contains := PySem.W.fnOf "__contains__" "Form.__contains__" (defArgs s_form_contains) (defBody s_form_contains) (defScope s_form_contains) .none kV_form_contains dc_form_contains pm_form_contains an_form_contains cd_form_contains ct_form_contains,
    f_form_eq := f_form_eq, d_form_eq := PySem.W.fnOf "__eq__" "Form.__eq__" (defArgs s_form_eq) (defBody s_form_eq) (defScope s_form_eq) .none kV_form_eq dc_form_eq pm_form_eq an_form_eq cd_form_eq ct_form_eq,
    f_form_xor := f_form_xor, d_form_xor := PySem.W.fnOf "__xor__" "Form.__xor__" (defArgs s_form_xor) (defBody s_form_xor) (defScope s_form_xor) .none kV_form_xor dc_form_xor pm_form_xor an_form_xor cd_form_xor ct_form_xor,
    f_form_and := f_form_and, d_form_and := PySem.W.fnOf "__and__" "Form.__and__" (defArgs s_form_and) (defBody s_form_and) (defScope s_form_and) .none kV_form_and dc_form_and pm_form_and an_form_and cd_form_and ct_form_and,
    f_form_or := f_form_or, d_form_or := PySem.W.fnOf "__or__" "Form.__or__" (defArgs s_form_or) (defBody s_form_or) (defScope s_form_or) .none kV_form_or dc_form_or pm_form_or an_form_or cd_form_or ct_form_or,
    f_form_invert := f_form_invert, d_form_invert := PySem.W.fnOf "__invert__" "Form.__invert__" (defArgs s_form_invert) (defBody s_form_invert) (defScope s_form_invert) .none kV_form_invert dc_form_invert pm_form_invert an_form_invert cd_form_invert ct_form_invert,
    f_form_scaled := f_form_scaled, d_form_scaled := PySem.W.fnOf "scaled" "Form.scaled" (defArgs s_form_scaled) (defBody s_form_scaled) (defScope s_form_scaled) .none kV_form_scaled dc_form_scaled pm_form_scaled an_form_scaled cd_form_scaled ct_form_scaled,
    f_form_spread := f_form_spread, d_form_spread := PySem.W.fnOf "spread" "Form.spread" (defArgs s_form_spread) (defBody s_form_spread) (defScope s_form_spread) .none kV_form_spread dc_form_spread pm_form_spread an_form_spread cd_form_spread ct_form_spread,
    f__law_tape := f__law_tape, d__law_tape := PySem.W.fnOf "_law_tape" "_law_tape" (defArgs s__law_tape) (defBody s__law_tape) (defScope s__law_tape) .none kV__law_tape dc__law_tape pm__law_tape an__law_tape cd__law_tape ct__law_tape,
    f__law_next := f__law_next, d__law_next := PySem.W.fnOf "_law_next" "_law_next" (defArgs s__law_next) (defBody s__law_next) (defScope s__law_next) .none kV__law_next dc__law_next pm__law_next an__law_next cd__law_next ct__law_next,
    f__law_gcd := f__law_gcd, d__law_gcd := PySem.W.fnOf "_law_gcd" "_law_gcd" (defArgs s__law_gcd) (defBody s__law_gcd) (defScope s__law_gcd) .none kV__law_gcd dc__law_gcd pm__law_gcd an__law_gcd cd__law_gcd ct__law_gcd,
    f__law_odd := f__law_odd, d__law_odd := PySem.W.fnOf "_law_odd" "_law_odd" (defArgs s__law_odd) (defBody s__law_odd) (defScope s__law_odd) .none kV__law_odd dc__law_odd pm__law_odd an__law_odd cd__law_odd ct__law_odd,
    f__law_holds := f__law_holds, d__law_holds := PySem.W.fnOf "_law_holds" "_law_holds" (defArgs s__law_holds) (defBody s__law_holds) (defScope s__law_holds) .none kV__law_holds dc__law_holds pm__law_holds an__law_holds cd__law_holds ct__law_holds,
    f__law_one := f__law_one, d__law_one := PySem.W.fnOf "_law_one" "_law_one" (defArgs s__law_one) (defBody s__law_one) (defScope s__law_one) .none kV__law_one dc__law_one pm__law_one an__law_one cd__law_one ct__law_one,
    f__law_rows := f__law_rows, d__law_rows := PySem.W.fnOf "_law_rows" "_law_rows" (defArgs s__law_rows) (defBody s__law_rows) (defScope s__law_rows) .none kV__law_rows dc__law_rows pm__law_rows an__law_rows cd__law_rows ct__law_rows,
    f__law_right := f__law_right, d__law_right := PySem.W.fnOf "_law_right" "_law_right" (defArgs s__law_right) (defBody s__law_right) (defScope s__law_right) .none kV__law_right dc__law_right pm__law_right an__law_right cd__law_right ct__law_right,
    f_law := fa, d_law := PySem.W.fnOf "law" "law" (defArgs s_law) (defBody s_law) (defScope s_law) .none kV_law dc_law pm_law an_law cd_law ct_law }
  have T : Txt a K mg (fun _ => C) := {
    z_abs := PySem.W.mg_none_of X G hz_abs,
    z_all := PySem.W.mg_none_of X G hz_all,
    z_bool := PySem.W.mg_none_of X G hz_bool,
    z_int := PySem.W.mg_none_of X G hz_int,
    z_isinstance := PySem.W.mg_none_of X G hz_isinstance,
    z_len := PySem.W.mg_none_of X G hz_len,
    z_list := PySem.W.mg_none_of X G hz_list,
    z_max := PySem.W.mg_none_of X G hz_max,
    z_min := PySem.W.mg_none_of X G hz_min,
    z_range := PySem.W.mg_none_of X G hz_range,
    z_repr := PySem.W.mg_none_of X G hz_repr,
    z_set := PySem.W.mg_none_of X G hz_set,
    z_sorted := PySem.W.mg_none_of X G hz_sorted,
    z_zip := PySem.W.mg_none_of X G hz_zip,
    g_MOST_DIVISORS := ⟨_, PySem.W.mg_of X G g_MOST_DIVISORS, ⟨_, rfl⟩⟩,
    g_DIVISOR_LIMIT := ⟨_, PySem.W.mg_of X G g_DIVISOR_LIMIT, ⟨_, rfl⟩⟩,
    g_gcd := PySem.W.mg_of X G g_gcd,
    g_lcm := PySem.W.mg_of X G g_lcm,
    mg_Form := PySem.W.mg_of X G aC,
    cls := ⟨pg, hd, po, sa⟩,
    own_Form := fun _ _ => ⟨⟨pg, hd, po, sa⟩, oa, on, ot, om⟩,
    selfFirst := sf,
    notFirst := nf,
    na__held := na__held,
    mg_is_integer := PySem.W.mg_of X G a_is_integer,
    fn_is_integer := fun_mk (st := s_is_integer) l_is_integer c_is_integer k_is_integer,
    mg_is_number := PySem.W.mg_of X G a_is_number,
    fn_is_number := fun_mk (st := s_is_number) l_is_number c_is_number k_is_number,
    mg_check_from := PySem.W.mg_of X G a_check_from,
    fn_check_from := fun_mk (st := s_check_from) l_check_from c_check_from k_check_from,
    mg_check_number := PySem.W.mg_of X G a_check_number,
    fn_check_number := fun_mk (st := s_check_number) l_check_number c_check_number k_check_number,
    mg_are_divisors := PySem.W.mg_of X G a_are_divisors,
    fn_are_divisors := fun_mk (st := s_are_divisors) l_are_divisors c_are_divisors k_are_divisors,
    mg_divided_oddly := PySem.W.mg_of X G a_divided_oddly,
    fn_divided_oddly := fun_mk (st := s_divided_oddly) l_divided_oddly c_divided_oddly k_divided_oddly,
    mg_odd_times := PySem.W.mg_of X G a_odd_times,
    fn_odd_times := fun_mk (st := s_odd_times) l_odd_times c_odd_times k_odd_times,
    mg_alone := PySem.W.mg_of X G a_alone,
    fn_alone := fun_mk (st := s_alone) l_alone c_alone k_alone,
    mg_common := PySem.W.mg_of X G a_common,
    fn_common := fun_mk (st := s_common) l_common c_common k_common,
    mg_divisors_of := PySem.W.mg_of X G a_divisors_of,
    fn_divisors_of := fun_mk (st := s_divisors_of) l_divisors_of c_divisors_of k_divisors_of,
    mg_form_with := PySem.W.mg_of X G a_form_with,
    fn_form_with := fun_mk (st := s_form_with) l_form_with c_form_with k_form_with,
    mg_limited_form := PySem.W.mg_of X G a_limited_form,
    fn_limited_form := fun_mk (st := s_limited_form) l_limited_form c_limited_form k_limited_form,
    mk_Form := ⟨mk, a_form_init, i_form_init, kc⟩,
    fn_form_init := fun_mk (st := s_form_init) l_form_init c_form_init k_form_init,
    prop_form_divisors := ⟨a_form_divisors, pg_form_divisors, pt_form_divisors, ⟨_, pr_form_divisors⟩⟩,
    fn_form_divisors := fun_mk (st := s_form_divisors) l_form_divisors c_form_divisors k_form_divisors,
    callo := ⟨a_form_call, i_form_call, n_form_call⟩,
    fn_form_call := fun_mk (st := s_form_call) l_form_call c_form_call k_form_call,
    fi_form_len := a_form_len,
    is_form_len := i_form_len,
    fn_form_len := fun_mk (st := s_form_len) l_form_len c_form_len k_form_len,
    fi_form_contains := a_form_contains,
    is_form_contains := i_form_contains,
    fn_form_contains := fun_mk (st := s_form_contains) l_form_contains c_form_contains k_form_contains,
    fi_form_eq := a_form_eq,
    is_form_eq := i_form_eq,
    fn_form_eq := fun_mk (st := s_form_eq) l_form_eq c_form_eq k_form_eq,
    fi_form_xor := a_form_xor,
    is_form_xor := i_form_xor,
    fn_form_xor := fun_mk (st := s_form_xor) l_form_xor c_form_xor k_form_xor,
    fi_form_and := a_form_and,
    is_form_and := i_form_and,
    fn_form_and := fun_mk (st := s_form_and) l_form_and c_form_and k_form_and,
    fi_form_or := a_form_or,
    is_form_or := i_form_or,
    fn_form_or := fun_mk (st := s_form_or) l_form_or c_form_or k_form_or,
    fi_form_invert := a_form_invert,
    is_form_invert := i_form_invert,
    fn_form_invert := fun_mk (st := s_form_invert) l_form_invert c_form_invert k_form_invert,
    me_form_scaled := ⟨a_form_scaled, i_form_scaled, k_form_scaled⟩,
    fn_form_scaled := fun_mk (st := s_form_scaled) l_form_scaled c_form_scaled k_form_scaled,
    me_form_spread := ⟨a_form_spread, i_form_spread, k_form_spread⟩,
    fn_form_spread := fun_mk (st := s_form_spread) l_form_spread c_form_spread k_form_spread,
    mg__law_tape := PySem.W.mg_of X G a__law_tape,
    fn__law_tape := fun_mk (st := s__law_tape) l__law_tape c__law_tape k__law_tape,
    mg__law_next := PySem.W.mg_of X G a__law_next,
    fn__law_next := fun_mk (st := s__law_next) l__law_next c__law_next k__law_next,
    mg__law_gcd := PySem.W.mg_of X G a__law_gcd,
    fn__law_gcd := fun_mk (st := s__law_gcd) l__law_gcd c__law_gcd k__law_gcd,
    mg__law_odd := PySem.W.mg_of X G a__law_odd,
    fn__law_odd := fun_mk (st := s__law_odd) l__law_odd c__law_odd k__law_odd,
    mg__law_holds := PySem.W.mg_of X G a__law_holds,
    fn__law_holds := fun_mk (st := s__law_holds) l__law_holds c__law_holds k__law_holds,
    mg__law_one := PySem.W.mg_of X G a__law_one,
    fn__law_one := fun_mk (st := s__law_one) l__law_one c__law_one k__law_one,
    mg__law_rows := PySem.W.mg_of X G a__law_rows,
    fn__law_rows := fun_mk (st := s__law_rows) l__law_rows c__law_rows k__law_rows,
    mg__law_right := PySem.W.mg_of X G a__law_right,
    fn__law_right := fun_mk (st := s__law_right) l__law_right c__law_right k__law_right,
    mg_law := PySem.W.mg_of X G a_law,
    fn_law := fun_mk (st := s_law) l_law c_law k_law }
  exact ⟨_, fun s v => .of_eq rfl, fun base _ _ => (all_ok T).weak sp_imp⟩
theorem walk {l : PySem.W.OpenLaw} {q : Program} {loose : List Str} {XP : (Str → Option Value) → Heap → Prop} {YP : World → Heap → Prop} {d : DefRec} {K : Params → PySem.W.Frag} (hn : l.most = some 63) (hdf : d.params.defaults = [])
    (hY : ∀ (w : World) (h : Heap), YP w h → (K w.params).In h)
    (Fo : ∀ (w : World) (mg : Str → Option Value) (fa : Addr) (h : Heap), (K w.params).In h → h.Ns mainGlobals mg → mg d.name = some (.ref fa) →
      ∃ fd : FuncData, (∀ (s : Shared) (u : Value), BindsTo s fd ⟨[u], []⟩ [("script", u)]) ∧ ∀ base : Heap, (K w.params).In base → base.Ns mainGlobals mg → FnG l.prog w (K w.params) mg base (L2.CX l.prog w) 9 fa fd ["script"] (spLaw (K w.params))) :
    PySem.W.WalkO q loose XP YP l.row.toRowW d [] (fun f vs => PySem.call f vs) :=
  walk_g (n := 63) (k := 9) (x := "script") (CX := fun w => L2.CX l.prog w) (sp := fun w => spLaw (K w.params)) hn (by decide) hdf ⟨rfl, by decide, by decide⟩ hY Fo (fun _ _ ad ns hl _ hS => ⟨ad, ns, rfl, hS, hl, fun _ => rfl⟩) fun _ _ _ _ _ z => by
    obtain ⟨_, _, _, _, _, _, _, _, _, _, _, _, q⟩ := z
    exact q
end K06
set_option maxRecDepth 100000
set_option maxHeartbeats 4000000
open PySem PySem.W PyProof.Rows in
set_option maxRecDepth 100000 in
set_option maxHeartbeats 0 in
theorem PySem.Challenge.cw_leaprules_k06_scaled_and_spread_forms_holds : PySem.Challenge.rw_leaprules_k06_scaled_and_spread_forms.Holds := by
  w_on; o_law; k_head; (case hw => w_witness2)
  k_fill
  refine K06.walk (l := PySem.Challenge.rw_leaprules_k06_scaled_and_spread_forms) rfl rfl (fun w h Y => PySem.W.kIn_of Y) ?F
  case F =>
    intro w mg fa h KX G hmg
    refine' K06.all_mk KX G hmg ?hz_abs ?hz_all ?hz_bool ?hz_int ?hz_isinstance ?hz_len ?hz_list ?hz_max ?hz_min ?hz_range ?hz_repr ?hz_set ?hz_sorted ?hz_zip ?g_MOST_DIVISORS ?g_DIVISOR_LIMIT ?g_gcd ?g_lcm ?aC ?pg ?hd ?po ?sa ?mk ?kc ?oa ?on ?ot ?om ?sf ?nf ?na__held ?a_is_integer ?l_is_integer ?c_is_integer ?k_is_integer ?a_is_number ?l_is_number ?c_is_number ?k_is_number ?a_check_from ?l_check_from ?c_check_from ?k_check_from ?a_check_number ?l_check_number ?c_check_number ?k_check_number ?a_are_divisors ?l_are_divisors ?c_are_divisors ?k_are_divisors ?a_divided_oddly ?l_divided_oddly ?c_divided_oddly ?k_divided_oddly ?a_odd_times ?l_odd_times ?c_odd_times ?k_odd_times ?a_alone ?l_alone ?c_alone ?k_alone ?a_common ?l_common ?c_common ?k_common ?a_divisors_of ?l_divisors_of ?c_divisors_of ?k_divisors_of ?a_form_with ?l_form_with ?c_form_with ?k_form_with ?a_limited_form ?l_limited_form ?c_limited_form ?k_limited_form ?a_form_init ?i_form_init ?l_form_init ?c_form_init ?k_form_init ?a_form_divisors ?pg_form_divisors ?pt_form_divisors ?pr_form_divisors ?l_form_divisors ?c_form_divisors ?k_form_divisors ?a_form_call ?i_form_call ?n_form_call ?l_form_call ?c_form_call ?k_form_call ?a_form_len ?i_form_len ?l_form_len ?c_form_len ?k_form_len ?a_form_contains ?i_form_contains ?l_form_contains ?c_form_contains ?k_form_contains ?a_form_eq ?i_form_eq ?l_form_eq ?c_form_eq ?k_form_eq ?a_form_xor ?i_form_xor ?l_form_xor ?c_form_xor ?k_form_xor ?a_form_and ?i_form_and ?l_form_and ?c_form_and ?k_form_and ?a_form_or ?i_form_or ?l_form_or ?c_form_or ?k_form_or ?a_form_invert ?i_form_invert ?l_form_invert ?c_form_invert ?k_form_invert ?a_form_scaled ?i_form_scaled ?l_form_scaled ?c_form_scaled ?k_form_scaled ?a_form_spread ?i_form_spread ?l_form_spread ?c_form_spread ?k_form_spread ?a__law_tape ?l__law_tape ?c__law_tape ?k__law_tape ?a__law_next ?l__law_next ?c__law_next ?k__law_next ?a__law_gcd ?l__law_gcd ?c__law_gcd ?k__law_gcd ?a__law_odd ?l__law_odd ?c__law_odd ?k__law_odd ?a__law_holds ?l__law_holds ?c__law_holds ?k__law_holds ?a__law_one ?l__law_one ?c__law_one ?k__law_one ?a__law_rows ?l__law_rows ?c__law_rows ?k__law_rows ?a__law_right ?l__law_right ?c__law_right ?k__law_right ?a_law ?l_law ?c_law ?k_law
    (case hz_abs => k_is)
    (case hz_all => k_is)
    (case hz_bool => k_is)
    (case hz_int => k_is)
    (case hz_isinstance => k_is)
    (case hz_len => k_is)
    (case hz_list => k_is)
    (case hz_max => k_is)
    (case hz_min => k_is)
    (case hz_range => k_is)
    (case hz_repr => k_is)
    (case hz_set => k_is)
    (case hz_sorted => k_is)
    (case hz_zip => k_is)
    (case g_MOST_DIVISORS => k_is)
    (case g_DIVISOR_LIMIT => k_is)
    (case g_gcd => k_is)
    (case g_lcm => k_is)
    (case aC => k_is)
    (case pg => k_is)
    (case hd => k_is)
    (case po => k_is)
    (case sa => k_is)
    (case mk => k_is)
    (case kc => k_is)
    (case oa => k_is)
    (case on => k_is)
    (case ot => k_is)
    (case om => k_is)
    (case sf => k_is)
    (case nf => k_is)
    (case na__held => k_is)
    (case a_is_integer => k_is)
    (case l_is_integer => k_is)
    (case c_is_integer => k_is)
    (case k_is_integer => k_is)
    (case a_is_number => k_is)
    (case l_is_number => k_is)
    (case c_is_number => k_is)
    (case k_is_number => k_is)
    (case a_check_from => k_is)
    (case l_check_from => k_is)
    (case c_check_from => k_is)
    (case k_check_from => k_is)
    (case a_check_number => k_is)
    (case l_check_number => k_is)
    (case c_check_number => k_is)
    (case k_check_number => k_is)
    (case a_are_divisors => k_is)
    (case l_are_divisors => k_is)
    (case c_are_divisors => k_is)
    (case k_are_divisors => k_is)
    (case a_divided_oddly => k_is)
    (case l_divided_oddly => k_is)
    (case c_divided_oddly => k_is)
    (case k_divided_oddly => k_is)
    (case a_odd_times => k_is)
    (case l_odd_times => k_is)
    (case c_odd_times => k_is)
    (case k_odd_times => k_is)
    (case a_alone => k_is)
    (case l_alone => k_is)
    (case c_alone => k_is)
    (case k_alone => k_is)
    (case a_common => k_is)
    (case l_common => k_is)
    (case c_common => k_is)
    (case k_common => k_is)
    (case a_divisors_of => k_is)
    (case l_divisors_of => k_is)
    (case c_divisors_of => k_is)
    (case k_divisors_of => k_is)
    (case a_form_with => k_is)
    (case l_form_with => k_is)
    (case c_form_with => k_is)
    (case k_form_with => k_is)
    (case a_limited_form => k_is)
    (case l_limited_form => k_is)
    (case c_limited_form => k_is)
    (case k_limited_form => k_is)
    (case a_form_init => k_is)
    (case i_form_init => k_is)
    (case l_form_init => k_is)
    (case c_form_init => k_is)
    (case k_form_init => k_is)
    (case a_form_divisors => k_is)
    (case pg_form_divisors => k_is)
    (case pt_form_divisors => k_is)
    (case pr_form_divisors => k_is)
    (case l_form_divisors => k_is)
    (case c_form_divisors => k_is)
    (case k_form_divisors => k_is)
    (case a_form_call => k_is)
    (case i_form_call => k_is)
    (case n_form_call => k_is)
    (case l_form_call => k_is)
    (case c_form_call => k_is)
    (case k_form_call => k_is)
    (case a_form_len => k_is)
    (case i_form_len => k_is)
    (case l_form_len => k_is)
    (case c_form_len => k_is)
    (case k_form_len => k_is)
    (case a_form_contains => k_is)
    (case i_form_contains => k_is)
    (case l_form_contains => k_is)
    (case c_form_contains => k_is)
    (case k_form_contains => k_is)
    (case a_form_eq => k_is)
    (case i_form_eq => k_is)
    (case l_form_eq => k_is)
    (case c_form_eq => k_is)
    (case k_form_eq => k_is)
    (case a_form_xor => k_is)
    (case i_form_xor => k_is)
    (case l_form_xor => k_is)
    (case c_form_xor => k_is)
    (case k_form_xor => k_is)
    (case a_form_and => k_is)
    (case i_form_and => k_is)
    (case l_form_and => k_is)
    (case c_form_and => k_is)
    (case k_form_and => k_is)
    (case a_form_or => k_is)
    (case i_form_or => k_is)
    (case l_form_or => k_is)
    (case c_form_or => k_is)
    (case k_form_or => k_is)
    (case a_form_invert => k_is)
    (case i_form_invert => k_is)
    (case l_form_invert => k_is)
    (case c_form_invert => k_is)
    (case k_form_invert => k_is)
    (case a_form_scaled => k_is)
    (case i_form_scaled => k_is)
    (case l_form_scaled => k_is)
    (case c_form_scaled => k_is)
    (case k_form_scaled => k_is)
    (case a_form_spread => k_is)
    (case i_form_spread => k_is)
    (case l_form_spread => k_is)
    (case c_form_spread => k_is)
    (case k_form_spread => k_is)
    (case a__law_tape => k_is)
    (case l__law_tape => k_is)
    (case c__law_tape => k_is)
    (case k__law_tape => k_is)
    (case a__law_next => k_is)
    (case l__law_next => k_is)
    (case c__law_next => k_is)
    (case k__law_next => k_is)
    (case a__law_gcd => k_is)
    (case l__law_gcd => k_is)
    (case c__law_gcd => k_is)
    (case k__law_gcd => k_is)
    (case a__law_odd => k_is)
    (case l__law_odd => k_is)
    (case c__law_odd => k_is)
    (case k__law_odd => k_is)
    (case a__law_holds => k_is)
    (case l__law_holds => k_is)
    (case c__law_holds => k_is)
    (case k__law_holds => k_is)
    (case a__law_one => k_is)
    (case l__law_one => k_is)
    (case c__law_one => k_is)
    (case k__law_one => k_is)
    (case a__law_rows => k_is)
    (case l__law_rows => k_is)
    (case c__law_rows => k_is)
    (case k__law_rows => k_is)
    (case a__law_right => k_is)
    (case l__law_right => k_is)
    (case c__law_right => k_is)
    (case k__law_right => k_is)
    (case a_law => k_is)
    (case l_law => k_is)
    (case c_law => k_is)
    (case k_law => k_is)
