import PyProof.Rows.All
import Wide.All
import OpenK.AllK
import Wide.FinOn
import HandS.ForMost
import HandS.IsInst
import HandS.Sort
import HandS.Conv
import HandS.ClsMeth
import HandS.CallLocal
import HandS.Codes
import HandS.NoneIn
import HandS.Walk
import HandS.Defaults
import HandS.Strs
import HandS.SlotsOwn
import HandS.TupAny
import HandS.TupMul
import HandS.Deep
import HandS.FStr
import HandS.Zip
import HandS.TupLe
import HandS.Star
import HandS.TupSets
import KE.DataCmp
import HandS.Flow
import HandS.WordsExc
import HandS.TryOnly
import HandS.ExcIs
import HandS.ExcField
import HandS.ExcInit
import HandS.ExcSuper
import HandS.HotCalls
import KE.KExcSuper
import KE.RegKSuper
import KE.GoesEnumKw
import PySem.Challenge.RW_downpass_k11_faults_of_plans
set_option Elab.async false
set_option linter.all false
set_option maxRecDepth 100000
set_option maxHeartbeats 4000000
namespace DP
open PySem PySem.Spec PyProof.Rows L2
def isPl (p : Addr) (h : Heap) : Prop := ∃ (n : Int) (t : Tok) (k : Nat), h.get? p = some { cls := .type "list", data := .seq #[.int n t] k }
def plO (p : Addr) : HO := .ext (isPl p)
section
variable {P : Program} {w : World} {K : PySem.W.Frag} {mg : Str → Option Value} {base : Heap} {k : Nat} {f : Addr} {fd : FuncData} {ps : List Str} {sp sp' : Sp}
/-- the same objects by another heap that differs at p alone, where neither says own or tuple -/
theorem stay_at {H H' : Hp} {h : Heap} {p a : Addr} {o : HO} (x : ObjOk P w H h a o) (e : ∀ b, b ≠ p → H b = H' b) (n1 : ∀ y, H p ≠ some (.own y)) (n2 : ∀ xs, H p ≠ some (.tup xs)) : ObjOk P w H' h a o :=
  x.stay (fun _ _ _ q => q) (fun b q => by
    have hb : b ≠ p := fun z => n1 _ (z ▸ q)
    rw [← e b hb]; exact q) (fun b xs q => by
    have hb : b ≠ p := fun z => n2 _ (z ▸ q)
    rw [← e b hb]; exact q)
theorem pl_open {H : Hp} {h : Heap} {p : Addr} (ok : HOk P w H h) (e : H p = some (plO p)) : ∃ n : Int, HOk P w (upd H p (.lst [.int n])) h := by
  obtain ⟨⟨n, t, k, g⟩, _⟩ := (show ObjOk P w H h p (.ext (isPl p)) from ok p _ e)
  refine ⟨n, fun a o q => ?_⟩
  by_cases ha : a = p
  · subst ha
    rw [upd_same] at q
    cases q
    exact ⟨(by show 1 ≤ sizeLine; decide), [.int n t], k, .cons ⟨t, rfl⟩ .nil, g⟩
  · rw [upd_ne ha] at q
    exact stay_at (p := p) (ok a o q) (fun b hb => (upd_ne hb).symm) (fun y z => by rw [e] at z; cases z) (fun y z => by rw [e] at z; cases z)
theorem pl_close {H : Hp} {h : Heap} {p : Addr} {m : Int} (ok : HOk P w H h) (e : H p = some (.lst [.int m])) : HOk P w (upd H p (plO p)) h := by
  obtain ⟨_, its, k, r, g⟩ := (show ObjOk P w H h p (.lst [.int m]) from ok p _ e)
  refine fun a o q => ?_
  by_cases ha : a = p
  · subst ha
    rw [upd_same] at q
    cases q
    cases r with
    | cons r1 r2 =>
      cases r2
      obtain ⟨t, rfl⟩ := r1
      refine ⟨⟨m, t, k, g⟩, ⟨_, g⟩, fun h1 h2 z y => ?_⟩
      obtain ⟨n', t', k', g'⟩ := z
      exact ⟨n', t', k', y _ g'⟩
  · rw [upd_ne ha] at q
    exact stay_at (p := p) (ok a o q) (fun b hb => (upd_ne hb).symm) (fun y z => by rw [e] at z; cases z) (fun y z => by rw [e] at z; cases z)
/-- a def that turns the counter, told as one that changes nothing -/
theorem hide_in (F : FnOk P w K mg base CX0 k f fd ps sp) (hl : ∀ vs H Q E, sp' vs H Q E → vs.length = ps.length)
    (hs : ∀ vs H Q E, sp' vs H Q E → ∃ p, H p = some (plO p) ∧ ∀ n : Int, sp vs (upd H p (.lst [.int n])) (fun v H' => (∃ m : Int, H' = upd H p (.lst [.int m])) ∧ Q v H) E) : FnOk P w K mg base CX0 k f fd ps sp' := by
  refine ⟨hl, fun A outer s H args us vs Q E hr he hb hv h => ?_⟩
  obtain ⟨p, ep, h1⟩ := hs vs H Q E h
  obtain ⟨n, ok⟩ := pl_open he.hok ep
  have h2 := h1 n
  have hne : ∀ b, H b = none → b ≠ p := fun b z y => by rw [y, ep] at z; cases z
  refine codeAny_mono (F.run A outer s _ args us vs _ E hr ⟨he.frames, he.mod, fun b o z => ⟨(he.bs b o z).1, by rw [upd_ne (hne b (he.bs b o z).2)]; exact (he.bs b o z).2⟩, he.bsz, he.funs, fun b z => by rw [upd_ne (hne b (he.frf b z))]; exact he.frf b z, ok, he.bare⟩ hb hv h2) fun r s' hq => ?_
  cases r with
  | error e => exact hq.elim
  | ok fl =>
    cases fl with
    | next => exact False.elim hq
    | brk => exact False.elim hq
    | cont => exact False.elim hq
    | ret u =>
      obtain ⟨v, H', os, bare, un, hok, rv, ⟨m, rfl⟩, q⟩ := hq
      refine ⟨v, H, os, bare, ⟨fun b o z n hb hx => un.keep b o z (by rw [upd_ne (hne b n)]; exact n) hb hx, fun b o z n hb hx => un.slot b o z (by rw [upd_ne (hne b n)]; exact n) hb hx, fun _ _ _ n _ => n, un.there, fun _ _ z => z, fun _ _ _ z => z, fun _ ps z => ⟨#[], by rw [z]; simp⟩⟩, ?_, rv, q⟩
      have c := pl_close hok upd_same
      rw [upd_upd] at c
      intro a o z
      have c1 := c a
      have eq : upd H p (plO p) = H := by
        funext b
        by_cases hb : b = p
        · subst hb; rw [upd_same, ep]
        · rw [upd_ne hb]
      rw [eq] at c
      exact c a o z
/-- a def that hands back a heap with such a list: from then on it is a counter -/
theorem hide_out (F : FnOk P w K mg base CX0 k f fd ps sp) (hl : ∀ vs H Q E, sp' vs H Q E → vs.length = ps.length)
    (hs : ∀ vs H Q E, sp' vs H Q E → sp vs H (fun v H' => ∃ (p : Addr) (m : Int), H p = none ∧ H' p = some (.lst [.int m]) ∧ Q v (upd H' p (plO p))) E) : FnOk P w K mg base CX0 k f fd ps sp' := by
  refine ⟨hl, fun A outer s H args us vs Q E hr he hb hv h => ?_⟩
  refine codeAny_mono (F.run A outer s _ args us vs _ E hr he hb hv (hs vs H Q E h)) fun r s' hq => ?_
  cases r with
  | error e => exact hq.elim
  | ok fl =>
    cases fl with
    | next => exact False.elim hq
    | brk => exact False.elim hq
    | cont => exact False.elim hq
    | ret u =>
      obtain ⟨v, H', os, bare, un, hok, rv, p, m, n0, ep, q⟩ := hq
      refine ⟨v, _, os, bare, ⟨un.keep, un.slot, fun b o z n hx => ?_, un.there, fun b xs z => ?_, fun b o u z => ?_, fun b ps z => ?_⟩, pl_close hok ep, rv, q⟩
      · have e1 := un.free b o z n hx
        rw [upd_ne (fun y => by rw [y, ep] at e1; cases e1)]
        exact e1
      · rw [upd_ne (ne_of_none z n0)]; exact un.tups b xs z
      · rw [upd_ne (ne_of_none z n0)]; exact un.frzs b o u z
      · rw [upd_ne (ne_of_none z n0)]; exact un.tbls b ps z
end
end DP
namespace DP
open PySem PySem.Spec PyProof.Rows L2
/-- the built-in names that the text leaves alone -/
structure Bt (mg : Str → Option Value) : Prop where
  len : mg "len" = none
  range : mg "range" = none
  int : mg "int" = none
  abs : mg "abs" = none
  isinstance : mg "isinstance" = none
  bool : mg "bool" = none
  str : mg "str" = none
  tuple : mg "tuple" = none
  list : mg "list" = none
  min : mg "min" = none
  all : mg "all" = none
  enumerate : mg "enumerate" = none
structure DefOk (P : Program) (w : World) (K : PySem.W.Frag) (mg : Str → Option Value) (base : Heap) (CX : CXT) (k : Nat) (x : Str) (ps : List Str) (sp : Sp) : Prop where
  ex : ∃ f fd, FnOk P w K mg base CX k f fd ps sp ∧ mg x = some (.ref f) ∧ PySem.W.keepIn K (.ref f) = true ∧ Binds K fd ps [] ∧ ∃ oc od osl, K.lookup f = some ⟨oc, od, .func fd, osl⟩
/-- where a def stands -/
structure At (K : PySem.W.Frag) (mg : Str → Option Value) (x : Str) (st : Stmt) (ps : List Str) : Prop where
  ex : ∃ f fd, Fun K x x st f fd ∧ mg x = some (.ref f) ∧ Binds K fd ps []
theorem pe_f {X : Cx} {CX : CXT} {k : Nat} {x : Str} {ps : List Str} {sp : Sp} {E : XK} {e : Expr} {es : List Expr} {t : TA} {p pos : Pos} (D : DefOk X.prog X.w X.K X.mg X.base CX k x ps sp) (hr : Room k X.A) (hx : Passes CX X E) (ha : PA X (e :: es) t)
    (hg : Gl X x := by rfl) (hdb : (x == ("__debug__" : Str)) = false := by decide) (he : starEach (e :: es) X.env = (false, eval e X.env) :: starEach es X.env := by rfl) (hpl : (backTo pos (starEach es X.env)).any (·.1) = false := by rfl) :
    PE X (.Call (.Name x p) (e :: es) [] pos) (tCall sp [] E t) := by
  obtain ⟨f, fd, G, m, kp, b, _⟩ := D.ex
  exact pe_call G hr hg m kp b .nil hx ha hdb he hpl
section
variable {P : Program} {w : World} {K : PySem.W.Frag} {mg : Str → Option Value} {base : Heap} {x : Str} {st : Stmt} {ps N : List Str} {k : Nat} {sp sp' : Sp}
theorem At.ok (F : At K mg x st ps) (S : FnScope N ps (defScope st)) (len : ∀ vs H Q E, sp vs H Q E → vs.length = ps.length)
    (hbody : ∀ (f : Addr) (cdv : Value) (A : Around) (outer : List Env) (s : Shared) (H : Hp) (vs : List V) (Q : VK) (E : XK), Room k (A.deeper (envOfC x (defScope st) s.heap.objs.size f cdv)) → sp vs H Q E →
      ∃ t, PSs (cxOf CX0 P w K mg base N x (defScope st) f cdv A outer s H E).nox (defBody st) t ∧ t { nx := fun _ H' => Q .non H', rt := Q } (start N vs) H) : DefOk P w K mg base CX0 (k + 1) x ps sp := by
  obtain ⟨f, fd, G, m, b⟩ := F.ex
  obtain ⟨oc, od, _, _, _, _, _, _, osl, _, lk, _⟩ := G.ex
  exact ⟨f, fd, G.ok S len (fun cdv A outer s H vs Q E hr h => hbody f cdv A outer s H vs Q E hr h), m, G.kp, b, oc, od, osl, lk⟩
/-- the law's def, for the end -/
theorem At.end_ {l : PySem.W.OpenLaw} {fa : Addr} (F : At K mg x st ["_law_script"]) (hfa : mg x = some (.ref fa)) (h : ∀ base : Heap, DefOk l.prog w K mg base CX0 k x ["_law_script"] sp)
    (hb : ∀ (kV doc pm : Value) (an : Option Addr) (cdv ct v : Value), bindArgs (PySem.W.fnOf x x (defArgs st) (defBody st) (defScope st) .none kV doc pm an cdv ct) ⟨[v], []⟩ = pure [(("_law_script" : Str), v)]) :
    ∃ fd : FuncData, (∀ (s : Shared) (v : Value), BindsTo s fd ⟨[v], []⟩ [("_law_script", v)]) ∧ ∀ base : Heap, K.In base → base.Ns mainGlobals mg → FnOk l.prog w K mg base CX0 k fa fd ["_law_script"] sp := by
  obtain ⟨f, fd, G, m, b⟩ := F.ex
  rw [hfa] at m
  cases m
  refine ⟨fd, fun s v => ?_, fun base _ _ => ?_⟩
  · obtain ⟨oc, od, kV, doc, pm, an, cdv, ct, osl, rfl, lk, _⟩ := G.ex
    exact .of_eq (hb kV doc pm an cdv ct v)
  obtain ⟨f', fd', G', m', _, _, oc', od', osl', lk'⟩ := (h base).ex
  rw [hfa] at m'
  cases m'
  obtain ⟨oc, od, _, _, _, _, _, _, osl, _, lk, _⟩ := G.ex
  rw [lk] at lk'
  cases lk'
  exact G'
theorem DefOk.hide_in (D : DefOk P w K mg base CX0 k x ps sp) (hl : ∀ vs H Q E, sp' vs H Q E → vs.length = ps.length)
    (hs : ∀ vs H Q E, sp' vs H Q E → ∃ p, H p = some (plO p) ∧ ∀ n : Int, sp vs (upd H p (.lst [.int n])) (fun v H' => (∃ m : Int, H' = upd H p (.lst [.int m])) ∧ Q v H) E) : DefOk P w K mg base CX0 k x ps sp' := by
  obtain ⟨f, fd, G, m, kp, b, lk⟩ := D.ex
  exact ⟨f, fd, DP.hide_in G hl hs, m, kp, b, lk⟩
theorem DefOk.hide_out (D : DefOk P w K mg base CX0 k x ps sp) (hl : ∀ vs H Q E, sp' vs H Q E → vs.length = ps.length)
    (hs : ∀ vs H Q E, sp' vs H Q E → sp vs H (fun v H' => ∃ (p : Addr) (m : Int), H p = none ∧ H' p = some (.lst [.int m]) ∧ Q v (upd H' p (plO p))) E) : DefOk P w K mg base CX0 k x ps sp' := by
  obtain ⟨f, fd, G, m, kp, b, lk⟩ := D.ex
  exact ⟨f, fd, DP.hide_out G hl hs, m, kp, b, lk⟩
theorem DefOk.imp (D : DefOk P w K mg base CX0 k x ps sp) (h : ∀ vs H Q E, sp' vs H Q E → sp vs H Q E) : DefOk P w K mg base CX0 k x ps sp' := by
  obtain ⟨f, fd, G, m, kp, b, lk⟩ := D.ex
  exact ⟨f, fd, G.imp h, m, kp, b, lk⟩
end
theorem at_mk {h : Heap} {K : PySem.W.Frag} {mg : Str → Option Value} (X : K.In h) (G : h.Ns mainGlobals mg) {x : Str} {st : Stmt} {ps : List Str} {f : Addr} {oc : Value} {od an : Option Addr} {osl : Array (Option Value)} {kV doc pm cdv ct : Value}
    (a : PySem.W.nsIn K mainGlobals x = some (some (.ref f))) (l : K.lookup f = some ⟨oc, od, .func (PySem.W.fnOf x x (defArgs st) (defBody st) (defScope st) .none kV doc pm an cdv ct), osl⟩)
    (c : PySem.W.codeIn K cdv x = true) (k : PySem.W.keepIn K (.ref f) = true)
    (hb : ∀ (kV doc pm : Value) (an : Option Addr) (cdv ct : Value) (us : List Value), us.length = ps.length → bindArgs (PySem.W.fnOf x x (defArgs st) (defBody st) (defScope st) .none kV doc pm an cdv ct) ⟨us, []⟩ = pure (ps.zip us)) : At K mg x st ps := by
  have F := fun_mk (st := st) l c k
  exact ⟨f, _, F, PySem.W.mg_of X G a, F.binds hb⟩
theorem same_new {H : Hp} {p : Addr} (h : H p = none) (o : HO) : Same H (upd H p o) := fun b u q => by rw [upd_ne (ne_of_none q h)]; exact q
theorem same_at {H H' : Hp} {p : Addr} (h : H p = none) (s : Same H H') (o : HO) : Same H (upd H' p o) := fun b u q => by rw [upd_ne (ne_of_none q h)]; exact s _ _ q
theorem Same.tup {K : PySem.W.Frag} {H H' : Hp} {a : Addr} {xs : List V} (e : Same H H') (h : SqT K H a xs) : SqT K H' a xs := by
  rcases h with (h | ⟨o, h⟩) | h
  · exact .inl (.inl (e _ _ h))
  · exact .inl (.inr ⟨o, e _ _ h⟩)
  · exact .inr h
theorem iteT' {c : Bool} {A B : Prop} (e : c = true) (h : A) : if c = true then A else B := by
  rw [if_pos e]
  exact h
theorem iteF' {c : Bool} {A B : Prop} (e : c = false) (h : B) : if c = true then A else B := by
  rw [e]
  exact iteF h
theorem small {n : Nat} (h : n ≤ 1000) : n ≤ sizeLine := Nat.le_of_lt (small1000 h)
end DP
namespace DP
open PySem PySem.Spec PyProof.Rows L2
/-- a span of two ints -/
def SpanV (K : PySem.W.Frag) (H : Hp) (x : V) (q : Int × Int) : Prop := ∃ t, x = .ref t ∧ SqT K H t [.int q.1, .int q.2]
abbrev Spans (K : PySem.W.Frag) (H : Hp) (xs : List V) (qs : List (Int × Int)) : Prop := Paired (SpanV K H) xs qs
theorem paired_snoc {α β : Type} {F : α → β → Prop} : ∀ {xs : List α} {ys : List β} {x : α} {y : β}, Paired F xs ys → F x y → Paired F (xs ++ [x]) (ys ++ [y])
  | _, _, _, _, .nil, h => .cons h .nil
  | _, _, _, _, .cons a t, h => .cons a (paired_snoc t h)
theorem paired_at {α β : Type} {F : α → β → Prop} : ∀ {xs : List α} {ys : List β} {i : Nat} {x : α}, Paired F xs ys → xs[i]? = some x → ∃ y, ys[i]? = some y ∧ F x y
  | _, _, _, _, .nil, h => by simp at h
  | _, _, 0, _, .cons a _, h => ⟨_, rfl, by rw [← Option.some.inj h]; exact a⟩
  | _, _, i + 1, _, .cons _ t, h => by
    obtain ⟨y, h1, h2⟩ := paired_at (i := i) t h
    exact ⟨y, h1, h2⟩
theorem paired_len {α β : Type} {F : α → β → Prop} {xs : List α} {ys : List β} (h : Paired F xs ys) : xs.length = ys.length := Paired.length h
/-- a tuple stands where a list is changed -/
theorem sqT_upd {K : PySem.W.Frag} {H : Hp} {t L : Addr} {xs ys : List V} {o : HO} (h : SqT K H t xs) (e : H L = some (.lst ys)) : SqT K (upd H L o) t xs := by
  rcases h with (h | ⟨u, h⟩) | h
  · exact .inl (.inl (by rw [upd_ne (ne_of h e (fun z => nomatch z))]; exact h))
  · exact .inl (.inr ⟨u, by rw [upd_ne (ne_of h e (fun z => nomatch z))]; exact h⟩)
  · exact .inr h
theorem Spans.upd {K : PySem.W.Frag} {H : Hp} {L : Addr} {xs ys : List V} {qs : List (Int × Int)} {o : HO} (h : Spans K H xs qs) (e : H L = some (.lst ys)) : Spans K (L2.upd H L o) xs qs :=
  Paired.mapP h fun _ _ ⟨t, h1, h2⟩ => ⟨t, h1, sqT_upd h2 e⟩
theorem Spans.same {K : PySem.W.Frag} {H H' : Hp} {xs : List V} {qs : List (Int × Int)} (h : Spans K H xs qs) (s : Same H H') : Spans K H' xs qs :=
  Paired.mapP h fun _ _ ⟨t, h1, h2⟩ => ⟨t, h1, Same.tup s h2⟩
end DP
namespace DP
open PySem PySem.Spec PyProof.Rows L2
abbrev tl (x : Str) : List Nat := TL.tl x
def num (n : Int) : Str := Str.ofString (toString n)
/-- a word of a line -/
def WdOk (w : Str) : Prop := tl w ≠ [] ∧ 32 ∉ tl w ∧ 10 ∉ tl w ∧ (tl w).length ≤ 16
def isL (c : Nat) : Bool := (decide (65 ≤ c) && decide (c ≤ 90)) || (decide (97 ≤ c) && decide (c ≤ 122))
def isD (c : Nat) : Bool := decide (48 ≤ c) && decide (c ≤ 57)
def NameOk (w : Str) : Prop := ∃ c r, tl w = c :: r ∧ isL c = true ∧ (∀ x ∈ r, (isL x || isD x) = true) ∧ r.length ≤ 14
theorem isL_lt {c : Nat} (h : isL c = true) : 65 ≤ c ∧ c ≤ 122 := by
  unfold isL at h
  simp only [Bool.or_eq_true, Bool.and_eq_true, decide_eq_true_eq] at h
  omega
theorem isD_lt {c : Nat} (h : isD c = true) : 48 ≤ c ∧ c ≤ 57 := by
  unfold isD at h
  simp only [Bool.and_eq_true, decide_eq_true_eq] at h
  omega
theorem sign_lt {c : Nat} (h : (isL c || isD c) = true) : 48 ≤ c ∧ c ≤ 122 := by
  rcases Bool.or_eq_true _ _ ▸ h with h | h
  · have := isL_lt h; omega
  · have := isD_lt h; omega
theorem NameOk.signs {w : Str} (h : NameOk w) : ∀ c ∈ tl w, (isL c || isD c) = true := by
  obtain ⟨c, r, e, hc, hr, _⟩ := h
  intro x hx
  rw [e] at hx
  rcases List.mem_cons.mp hx with rfl | hx
  · rw [hc]; rfl
  · exact hr x hx
theorem NameOk.wd {w : Str} (h : NameOk w) : WdOk w := by
  have hs := h.signs
  obtain ⟨c, r, e, hc, hr, hl⟩ := h
  refine ⟨by rw [e]; exact List.cons_ne_nil _ _, fun z => ?_, fun z => ?_, by rw [e, List.length_cons]; omega⟩
  · have := sign_lt (hs _ z); omega
  · have := sign_lt (hs _ z); omega
theorem num_nat {n : Int} (h : 0 ≤ n) : tl (num n) = TL.numL n.toNat := by
  have e : n = ((n.toNat : Nat) : Int) := by omega
  unfold num
  rw [e]
  exact TL.tl_num _
theorem numL_len7 {n : Nat} (h : n < 10000000) : (TL.numL n).length ≤ 7 := TL.numL_len (k := 7) (by decide) (by omega)
theorem num_wd {n : Int} (h0 : 0 ≤ n) (h1 : n < 10000000) : WdOk (num n) := by
  refine ⟨?_, ?_, ?_, ?_⟩
  · rw [num_nat h0]; exact TL.numL_ne _
  · rw [num_nat h0]; exact TL.numL_free (by omega)
  · rw [num_nat h0]; exact TL.numL_free (by omega)
  · rw [num_nat h0]; exact Nat.le_trans (numL_len7 (by omega)) (by decide)
/-- 0, or no 0 ahead -/
theorem numL_head {n : Nat} : ∀ r, TL.numL n = 48 :: r → n = 0 := by
  induction n using Nat.strongRecOn with
  | _ n ih =>
    intro r h
    by_cases c : n < 10
    · rw [TL.numL_lt c] at h
      have := (List.cons.inj h).1
      omega
    · rw [TL.numL_step (by omega)] at h
      cases q : TL.numL (n / 10) with
      | nil => exact absurd q (TL.numL_ne _)
      | cons a b =>
        rw [q] at h
        have e := (List.cons.inj h).1
        have := ih (n / 10) (by omega) b (by rw [q, e])
        omega
def sp : Str := Str.ofString " "
def nl : Str := Str.ofString "\n"
theorem tl_sp : tl sp = [32] := by decide +kernel
theorem tl_nl : tl nl = [10] := by decide +kernel
def row (ws : List Str) : Str := Str.join sp ws
theorem joinL_free {c : Nat} {S : List Nat} (hS : c ∉ S) : ∀ ps : List (List Nat), (∀ p ∈ ps, c ∉ p) → c ∉ TL.joinL S ps
  | [], _ => List.not_mem_nil
  | [p], h => h p List.mem_cons_self
  | p :: q :: r, h => by
    show c ∉ p ++ (S ++ TL.joinL S (q :: r))
    have ih := joinL_free hS (q :: r) fun x hx => h x (List.mem_cons_of_mem _ hx)
    intro z
    rcases List.mem_append.mp z with z | z
    · exact h p List.mem_cons_self z
    · rcases List.mem_append.mp z with z | z
      · exact hS z
      · exact ih z
theorem joinL_len {m : Nat} {S : List Nat} : ∀ ps : List (List Nat), (∀ p ∈ ps, p.length ≤ m) → (TL.joinL S ps).length ≤ ps.length * (m + S.length)
  | [], _ => Nat.zero_le _
  | [p], h => by
    have := h p List.mem_cons_self
    show p.length ≤ 1 * (m + S.length)
    omega
  | p :: q :: r, h => by
    have ih := joinL_len (S := S) (q :: r) fun x hx => h x (List.mem_cons_of_mem _ hx)
    have h1 := h p List.mem_cons_self
    show (p ++ (S ++ TL.joinL S (q :: r))).length ≤ ((q :: r).length + 1) * (m + S.length)
    rw [List.length_append, List.length_append, Nat.add_mul]
    omega
theorem row_free {ws : List Str} (h : ∀ w ∈ ws, WdOk w) : 10 ∉ tl (row ws) := by
  unfold row
  rw [show tl (Str.join sp ws) = TL.joinL (tl sp) (ws.map tl) from TL.tl_join sp ws]
  refine joinL_free (by rw [tl_sp]; decide) _ fun p hp => ?_
  obtain ⟨w, hw, rfl⟩ := List.mem_map.mp hp
  exact (h w hw).2.2.1
theorem row_len {ws : List Str} (h : ∀ w ∈ ws, WdOk w) : (row ws).length ≤ ws.length * 17 := by
  rw [TL.len_tl]
  unfold row
  rw [show TL.tl (Str.join sp ws) = TL.joinL (tl sp) (ws.map tl) from TL.tl_join sp ws]
  have := joinL_len (m := 16) (S := tl sp) (ws.map tl) fun p hp => by
    obtain ⟨w, hw, rfl⟩ := List.mem_map.mp hp
    exact (h w hw).2.2.2
  rw [List.length_map, tl_sp] at this
  rw [tl_sp]
  exact this
theorem row_split {ws : List Str} (hn : ws ≠ []) (h : ∀ w ∈ ws, WdOk w) : Txt.split (row ws) sp = ws := by
  have e := TL.split_join (y := sp) (s := 32) (S := []) tl_sp (by decide +kernel) hn (fun p hp => (h p hp).2.1)
  rw [TL.join_eq] at e
  exact e
/-- the text of rows, each with its newline -/
def glue (rows : List Str) : Str := Str.join nl (rows ++ [Str.empty])
theorem glue_split {rows : List Str} (h : ∀ r ∈ rows, 10 ∉ tl r) : Txt.split (glue rows) nl = rows ++ [Str.empty] := by
  have e := TL.split_join (y := nl) (s := 10) (S := []) tl_nl (by decide +kernel) (parts := rows ++ [Str.empty]) (by simp) (fun p hp => by
    rcases List.mem_append.mp hp with hp | hp
    · exact h p hp
    · rw [List.mem_singleton.mp hp]
      exact List.not_mem_nil)
  rw [TL.join_eq] at e
  exact e
theorem glue_tl : ∀ rows : List Str, tl (glue rows) = (rows.map fun r => tl r ++ [10]).flatten
  | [] => rfl
  | [r] => by
    show tl (r ++ nl ++ Str.empty) = tl r ++ [10] ++ []
    rw [show tl (r ++ nl ++ Str.empty) = tl (r ++ nl) ++ tl Str.empty from TL.tl_append _ _, show tl (r ++ nl) = tl r ++ tl nl from TL.tl_append _ _, tl_nl]
    rfl
  | r :: q :: z => by
    have ih := glue_tl (q :: z)
    show tl (r ++ nl ++ Str.join nl ((q :: z) ++ [Str.empty])) = tl r ++ [10] ++ ((q :: z).map fun r => tl r ++ [10]).flatten
    rw [show tl (r ++ nl ++ Str.join nl ((q :: z) ++ [Str.empty])) = tl (r ++ nl) ++ tl (Str.join nl ((q :: z) ++ [Str.empty])) from TL.tl_append _ _, show tl (r ++ nl) = tl r ++ tl nl from TL.tl_append _ _, tl_nl, ← ih]
    rfl
/-- the law's own making of it: no separator, each row with its newline -/
theorem join_nl (rows : List Str) : Txt.join Str.empty (rows.map fun r => r ++ nl) = glue rows := by
  refine TL.ext_tl ?_
  show tl _ = tl _
  rw [glue_tl, TL.join_eq]
  rw [show tl (Str.join Str.empty (rows.map fun r => r ++ nl)) = TL.joinL (tl Str.empty) ((rows.map fun r => r ++ nl).map tl) from TL.tl_join _ _]
  rw [List.map_map]
  have e : (tl ∘ fun r : Str => r ++ nl) = fun r => tl r ++ [10] := by
    funext r
    show tl (r ++ nl) = _
    rw [show tl (r ++ nl) = tl r ++ tl nl from TL.tl_append _ _, tl_nl]
  rw [e]
  generalize (rows.map fun r => tl r ++ [10]) = ls
  have flat : ∀ ls : List (List Nat), TL.joinL (tl Str.empty) ls = ls.flatten := by
    intro ls
    induction ls with
    | nil => rfl
    | cons a r ih =>
      cases r with
      | nil =>
        show a = a ++ []
        rw [List.append_nil]
      | cons b t =>
        show a ++ ([] ++ TL.joinL (tl Str.empty) (b :: t)) = a ++ (b :: t).flatten
        rw [List.nil_append, ih]
  exact flat ls
theorem glue_len {rows : List Str} {m : Nat} (h : ∀ r ∈ rows, r.length ≤ m) : (glue rows).length ≤ (rows.length + 1) * (m + 1) := by
  rw [TL.len_tl]
  unfold glue
  rw [show TL.tl (Str.join nl (rows ++ [Str.empty])) = TL.joinL (tl nl) ((rows ++ [Str.empty]).map tl) from TL.tl_join _ _]
  have := joinL_len (m := m) (S := tl nl) ((rows ++ [Str.empty]).map tl) fun p hp => by
    obtain ⟨w, hw, rfl⟩ := List.mem_map.mp hp
    rcases List.mem_append.mp hw with hw | hw
    · have := h w hw
      rw [TL.len_tl] at this
      exact this
    · rw [List.mem_singleton.mp hw]
      exact Nat.zero_le _
  rw [List.length_map, List.length_append, tl_nl] at this
  rw [tl_nl]
  exact this
structure SatD where
  name : Str
  store : Int
  battery : Int
  level : Int
  reserve : Int
  charge : Int
  settle : Int
  light : List (Int × Int)
structure StaD where
  name : Str
  antennas : Int
  turn : Int
structure RecD where
  name : Str
  sat : Nat
  earliest : Int
  latest : Int
  length : Int
  size : Int
  energy : Int
  worth : Int
  rank : Int
  deadline : Int
structure PasD where
  name : Str
  sat : Nat
  sta : Nat
  first : Int
  fin : Int
  room : Int
  energy : Int
  fee : Int
structure WorldD where
  horizon : Int
  sats : List SatD
  stas : List StaD
  recs : List RecD
  pass : List PasD
def lightW : List (Int × Int) → List Str
  | [] => []
  | q :: r => num q.1 :: num q.2 :: lightW r
def wHor (h : Int) : List Str := [Str.ofString "horizon", num h]
def wSat (s : SatD) : List Str := [Str.ofString "satellite", s.name, Str.ofString "store", num s.store, Str.ofString "battery", num s.battery, Str.ofString "level", num s.level,
  Str.ofString "reserve", num s.reserve, Str.ofString "charge", num s.charge, Str.ofString "settle", num s.settle, Str.ofString "light"] ++ lightW s.light
def wSta (s : StaD) : List Str := [Str.ofString "station", s.name, Str.ofString "antennas", num s.antennas, Str.ofString "turn", num s.turn]
def satN (W : WorldD) (i : Nat) : Str := ((W.sats.map (·.name))[i]?).getD Str.empty
def staN (W : WorldD) (i : Nat) : Str := ((W.stas.map (·.name))[i]?).getD Str.empty
def wRec (W : WorldD) (r : RecD) : List Str := [Str.ofString "recording", r.name, Str.ofString "by", satN W r.sat, Str.ofString "from", num r.earliest, Str.ofString "to", num r.latest,
  Str.ofString "length", num r.length, Str.ofString "size", num r.size, Str.ofString "energy", num r.energy, Str.ofString "worth", num r.worth, Str.ofString "rank", num r.rank, Str.ofString "until", num r.deadline]
def wPas (W : WorldD) (p : PasD) : List Str := [Str.ofString "pass", p.name, Str.ofString "by", satN W p.sat, Str.ofString "over", staN W p.sta, Str.ofString "from", num p.first, Str.ofString "to", num p.fin,
  Str.ofString "room", num p.room, Str.ofString "energy", num p.energy, Str.ofString "fee", num p.fee]
def linesW (W : WorldD) : List (List Str) := wHor W.horizon :: (W.sats.map wSat ++ W.stas.map wSta ++ W.recs.map (wRec W) ++ W.pass.map (wPas W))
def textW (W : WorldD) : Str := glue ((linesW W).map row)
def LightOk : Int → Int → List (Int × Int) → Prop
  | _, _, [] => True
  | least, h, q :: r => least ≤ q.1 ∧ q.1 + 1 ≤ q.2 ∧ q.2 ≤ h ∧ LightOk q.2 h r
structure SatOk (h : Int) (s : SatD) : Prop where
  name : NameOk s.name
  store : 0 ≤ s.store ∧ s.store ≤ 1000000
  battery : 0 ≤ s.battery ∧ s.battery ≤ 1000000
  level : 0 ≤ s.level ∧ s.level ≤ s.battery
  reserve : 0 ≤ s.reserve ∧ s.reserve ≤ s.level
  charge : 0 ≤ s.charge ∧ s.charge ≤ 1000
  settle : 0 ≤ s.settle ∧ s.settle ≤ 60
  light : LightOk 0 h s.light
structure StaOk (s : StaD) : Prop where
  name : NameOk s.name
  antennas : 1 ≤ s.antennas ∧ s.antennas ≤ 3
  turn : 0 ≤ s.turn ∧ s.turn ≤ 60
structure RecOk (W : WorldD) (r : RecD) : Prop where
  name : NameOk r.name
  sat : r.sat < W.sats.length
  earliest : 0 ≤ r.earliest ∧ r.earliest ≤ W.horizon - 1
  latest : r.earliest ≤ r.latest ∧ r.latest ≤ r.earliest + 20 ∧ r.latest ≤ W.horizon - 1
  length : 1 ≤ r.length ∧ r.length ≤ W.horizon - r.latest
  size : 0 ≤ r.size ∧ r.size ≤ 1000000
  energy : 0 ≤ r.energy ∧ r.energy ≤ 1000000
  worth : 1 ≤ r.worth ∧ r.worth ≤ 1000
  rank : 1 ≤ r.rank ∧ r.rank ≤ 3
  deadline : 0 ≤ r.deadline ∧ r.deadline ≤ W.horizon
structure PasOk (W : WorldD) (p : PasD) : Prop where
  name : NameOk p.name
  sat : p.sat < W.sats.length
  sta : p.sta < W.stas.length
  first : 0 ≤ p.first ∧ p.first ≤ W.horizon - 1
  fin : p.first + 1 ≤ p.fin ∧ p.fin ≤ W.horizon
  room : 0 ≤ p.room ∧ p.room ≤ 1000000
  energy : 0 ≤ p.energy ∧ p.energy ≤ 1000000
  fee : 0 ≤ p.fee ∧ p.fee ≤ 1000
structure WorldOk (W : WorldD) : Prop where
  horizon : 1 ≤ W.horizon ∧ W.horizon ≤ 500
  nSats : W.sats.length ≤ 3
  nStas : W.stas.length ≤ 3
  nRecs : W.recs.length ≤ 10
  nPass : W.pass.length ≤ 10
  dSats : (W.sats.map (·.name)).Nodup
  dStas : (W.stas.map (·.name)).Nodup
  dRecs : (W.recs.map (·.name)).Nodup
  dPass : (W.pass.map (·.name)).Nodup
  sats : ∀ s ∈ W.sats, SatOk W.horizon s
  stas : ∀ s ∈ W.stas, StaOk s
  recs : ∀ r ∈ W.recs, RecOk W r
  pass : ∀ p ∈ W.pass, PasOk W p
theorem LightOk.len {h : Int} : ∀ {l : List (Int × Int)} {least : Int}, LightOk least h l → least ≤ h → (l.length : Int) ≤ h - least
  | [], least, _, hl => by show (0 : Int) ≤ h - least; omega
  | q :: r, least, ⟨h1, h2, h3, h4⟩, hl => by
    have := h4.len h3
    rw [List.length_cons]
    omega
theorem LightOk.wd {h : Int} (hh : h ≤ 500) : ∀ {l : List (Int × Int)} {least : Int}, 0 ≤ least → LightOk least h l → ∀ w ∈ lightW l, WdOk w
  | [], _, _, _, w, hw => absurd hw List.not_mem_nil
  | q :: r, least, h0, ⟨h1, h2, h3, h4⟩, w, hw => by
    rcases List.mem_cons.mp hw with rfl | hw
    · exact num_wd (by omega) (by omega)
    · rcases List.mem_cons.mp hw with rfl | hw
      · exact num_wd (by omega) (by omega)
      · exact h4.wd hh (by omega) w hw
theorem lightW_len : ∀ l : List (Int × Int), (lightW l).length = 2 * l.length
  | [] => rfl
  | q :: r => by
    show (lightW r).length + 1 + 1 = 2 * (r.length + 1)
    rw [lightW_len r]
    omega
theorem satN_at {W : WorldD} {i : Nat} (h : i < W.sats.length) : (W.sats.map (·.name))[i]? = some (satN W i) := by
  unfold satN
  rw [List.getElem?_eq_getElem (by rw [List.length_map]; exact h)]
  rfl
theorem staN_at {W : WorldD} {i : Nat} (h : i < W.stas.length) : (W.stas.map (·.name))[i]? = some (staN W i) := by
  unfold staN
  rw [List.getElem?_eq_getElem (by rw [List.length_map]; exact h)]
  rfl
theorem satN_ok {W : WorldD} (w : WorldOk W) {i : Nat} (h : i < W.sats.length) : NameOk (satN W i) := by
  obtain ⟨s, hs, e⟩ := List.mem_map.mp (List.mem_of_getElem? (satN_at h))
  rw [← e]
  exact (w.sats s hs).name
theorem staN_ok {W : WorldD} (w : WorldOk W) {i : Nat} (h : i < W.stas.length) : NameOk (staN W i) := by
  obtain ⟨s, hs, e⟩ := List.mem_map.mp (List.mem_of_getElem? (staN_at h))
  rw [← e]
  exact (w.stas s hs).name
/-- all of a list, one by one -/
theorem all_cons {P : Str → Prop} {a : Str} {l : List Str} (h : P a) (t : ∀ w ∈ l, P w) : ∀ w ∈ a :: l, P w := fun w hw => by
  rcases List.mem_cons.mp hw with rfl | hw
  · exact h
  · exact t w hw
theorem all_nil {P : Str → Prop} : ∀ w ∈ ([] : List Str), P w := fun w hw => absurd hw List.not_mem_nil
theorem all_app {P : Str → Prop} {a b : List Str} (h : ∀ w ∈ a, P w) (t : ∀ w ∈ b, P w) : ∀ w ∈ a ++ b, P w := fun w hw => (List.mem_append.mp hw).elim (h w) (t w)
theorem wHor_wd {W : WorldD} (w : WorldOk W) : ∀ x ∈ wHor W.horizon, WdOk x :=
  all_cons (by unfold WdOk; decide +kernel) (all_cons (num_wd (by have := w.horizon; omega) (by have := w.horizon; omega)) all_nil)
theorem wSat_wd {h : Int} (hh : h ≤ 500) {s : SatD} (w : SatOk h s) : ∀ x ∈ wSat s, WdOk x := by
  have h1 := w.store; have h2 := w.battery; have h3 := w.level; have h4 := w.reserve; have h5 := w.charge; have h6 := w.settle
  exact all_app (all_cons (by unfold WdOk; decide +kernel) (all_cons w.name.wd (all_cons (by unfold WdOk; decide +kernel) (all_cons (num_wd (by omega) (by omega)) (all_cons (by unfold WdOk; decide +kernel) (all_cons (num_wd (by omega) (by omega))
    (all_cons (by unfold WdOk; decide +kernel) (all_cons (num_wd (by omega) (by omega)) (all_cons (by unfold WdOk; decide +kernel) (all_cons (num_wd (by omega) (by omega)) (all_cons (by unfold WdOk; decide +kernel) (all_cons (num_wd (by omega) (by omega))
    (all_cons (by unfold WdOk; decide +kernel) (all_cons (num_wd (by omega) (by omega)) (all_cons (by unfold WdOk; decide +kernel) all_nil))))))))))))))) (w.light.wd hh (Int.le_refl 0))
theorem wSta_wd {s : StaD} (w : StaOk s) : ∀ x ∈ wSta s, WdOk x := by
  have h1 := w.antennas; have h2 := w.turn
  exact all_cons (by unfold WdOk; decide +kernel) (all_cons w.name.wd (all_cons (by unfold WdOk; decide +kernel) (all_cons (num_wd (by omega) (by omega)) (all_cons (by unfold WdOk; decide +kernel) (all_cons (num_wd (by omega) (by omega)) all_nil)))))
theorem wRec_wd {W : WorldD} (w : WorldOk W) {r : RecD} (k : RecOk W r) : ∀ x ∈ wRec W r, WdOk x := by
  have h0 := w.horizon; have h1 := k.earliest; have h2 := k.latest; have h3 := k.length; have h4 := k.size; have h5 := k.energy; have h6 := k.worth; have h7 := k.rank; have h8 := k.deadline
  exact all_cons (by unfold WdOk; decide +kernel) (all_cons k.name.wd (all_cons (by unfold WdOk; decide +kernel) (all_cons (satN_ok w k.sat).wd
    (all_cons (by unfold WdOk; decide +kernel) (all_cons (num_wd (by omega) (by omega)) (all_cons (by unfold WdOk; decide +kernel) (all_cons (num_wd (by omega) (by omega)) (all_cons (by unfold WdOk; decide +kernel) (all_cons (num_wd (by omega) (by omega))
    (all_cons (by unfold WdOk; decide +kernel) (all_cons (num_wd (by omega) (by omega)) (all_cons (by unfold WdOk; decide +kernel) (all_cons (num_wd (by omega) (by omega)) (all_cons (by unfold WdOk; decide +kernel) (all_cons (num_wd (by omega) (by omega))
    (all_cons (by unfold WdOk; decide +kernel) (all_cons (num_wd (by omega) (by omega)) (all_cons (by unfold WdOk; decide +kernel) (all_cons (num_wd (by omega) (by omega)) all_nil)))))))))))))))))))
theorem wPas_wd {W : WorldD} (w : WorldOk W) {p : PasD} (k : PasOk W p) : ∀ x ∈ wPas W p, WdOk x := by
  have h0 := w.horizon; have h1 := k.first; have h2 := k.fin; have h3 := k.room; have h4 := k.energy; have h5 := k.fee
  exact all_cons (by unfold WdOk; decide +kernel) (all_cons k.name.wd (all_cons (by unfold WdOk; decide +kernel) (all_cons (satN_ok w k.sat).wd (all_cons (by unfold WdOk; decide +kernel) (all_cons (staN_ok w k.sta).wd
    (all_cons (by unfold WdOk; decide +kernel) (all_cons (num_wd (by omega) (by omega)) (all_cons (by unfold WdOk; decide +kernel) (all_cons (num_wd (by omega) (by omega)) (all_cons (by unfold WdOk; decide +kernel) (all_cons (num_wd (by omega) (by omega))
    (all_cons (by unfold WdOk; decide +kernel) (all_cons (num_wd (by omega) (by omega)) (all_cons (by unfold WdOk; decide +kernel) (all_cons (num_wd (by omega) (by omega)) all_nil)))))))))))))))
theorem linesW_ok {W : WorldD} (w : WorldOk W) : ∀ l ∈ linesW W, l ≠ [] ∧ (∀ x ∈ l, WdOk x) ∧ l.length ≤ 1015 := by
  intro l hl
  unfold linesW at hl
  rcases List.mem_cons.mp hl with rfl | hl
  · exact ⟨List.cons_ne_nil _ _, wHor_wd w, by show 2 ≤ 1015; decide⟩
  rcases List.mem_append.mp hl with hl | hl
  · rcases List.mem_append.mp hl with hl | hl
    · rcases List.mem_append.mp hl with hl | hl
      · obtain ⟨s, hs, rfl⟩ := List.mem_map.mp hl
        have k := w.sats s hs
        refine ⟨List.cons_ne_nil _ _, wSat_wd w.horizon.2 k, ?_⟩
        have h1 := k.light.len (by have := w.horizon; omega)
        have h2 := w.horizon
        have h3 := lightW_len s.light
        have h4 : (wSat s).length = 15 + (lightW s.light).length := by
          unfold wSat
          rw [List.length_append]
          rfl
        omega
      · obtain ⟨s, hs, rfl⟩ := List.mem_map.mp hl
        exact ⟨List.cons_ne_nil _ _, wSta_wd (w.stas s hs), by show 6 ≤ 1015; decide⟩
    · obtain ⟨s, hs, rfl⟩ := List.mem_map.mp hl
      exact ⟨List.cons_ne_nil _ _, wRec_wd w (w.recs s hs), by show 20 ≤ 1015; decide⟩
  · obtain ⟨s, hs, rfl⟩ := List.mem_map.mp hl
    exact ⟨List.cons_ne_nil _ _, wPas_wd w (w.pass s hs), by show 16 ≤ 1015; decide⟩
theorem linesW_len {W : WorldD} (w : WorldOk W) : (linesW W).length ≤ 27 := by
  have h1 := w.nSats; have h2 := w.nStas; have h3 := w.nRecs; have h4 := w.nPass
  unfold linesW
  rw [List.length_cons, List.length_append, List.length_append, List.length_append, List.length_map, List.length_map, List.length_map, List.length_map]
  omega
theorem textW_len {W : WorldD} (w : WorldOk W) : (textW W).length ≤ 1000000 := by
  have h1 := glue_len (rows := (linesW W).map row) (m := 17255) fun r hr => by
    obtain ⟨l, hl, rfl⟩ := List.mem_map.mp hr
    have h2 := row_len (linesW_ok w l hl).2.1
    have h3 := (linesW_ok w l hl).2.2
    omega
  have h2 := linesW_len w
  rw [List.length_map] at h1
  have h3 : ((linesW W).length + 1) * (17255 + 1) ≤ 28 * 17256 := Nat.mul_le_mul_right _ (by omega)
  show (glue _).length ≤ _
  omega
end DP
namespace DP
open PySem PySem.Spec PyProof.Rows L2
/-- the list at a as it stands at each turn, each item in a new pair with the count from k on -/
def IteS (K : PySem.W.Frag) (a : Addr) (k : Int) : It :=
  ⟨fun i H => ∃ (xs : List V) (x : V), SqL K H a xs ∧ xs[i]? = some x,
   fun i H v H' => ∃ T x, v = .ref T ∧ H T = none ∧ H' = upd H T (.tup [.int (k + (i : Nat)), x]) ∧ ∀ xs, SqL K H a xs → xs[i]? = some x,
   fun i H => ∃ xs : List V, SqL K H a xs ∧ xs.length ≤ i⟩
theorem list_not_iter {h : Heap} {a it : Addr} {its : Array Value} {i : Nat} (l : h.IsList a its) (r : h.IsListIter it a i) : a ≠ it := fun z => by
  obtain ⟨o, ho, hc, _⟩ := l
  obtain ⟨o', ho', hc', _⟩ := r
  rw [z, ho'] at ho
  cases ho
  rw [hc] at hc'
  exact absurd hc' (by decide)
theorem turn_enumS {P : Program} {w : World} {K : PySem.W.Frag} {elts : List Expr} {kk : Nat} {tpos : Pos} (a en it : Addr) (k : Int) :
    Turn P w K (.Tuple elts kk tpos) (IteS K a k) [en, it] en (fun i h => (∃ old, IsEnum h en it (k + ((i : Nat) : Int)) old) ∧ h.IsListIter it a i ∧ en ≠ it) where
  mem := by simp
  obj := fun i h st b hb => by
    obtain ⟨⟨old, hen⟩, ⟨o, ho, hc, hd⟩, _⟩ := st
    have two : b = en ∨ b = it := by simpa using hb
    rcases two with z | z
    · subst z
      exact ⟨_, hen, fun v q => nomatch q⟩
    · subst z
      exact ⟨o, ho, fun v q => by rw [hd] at q; cases q⟩
  keep := fun i h h' st kp => by
    obtain ⟨⟨old, hen⟩, hi, hne⟩ := st
    exact ⟨⟨old, kp en (by simp) _ hen⟩, hi.at fun o q => kp it (by simp) o q, hne⟩
  item := by
    intro X hP hw hK hc i pins s σ H E I hf st hg
    subst hP hw hK
    obtain ⟨⟨old, hen⟩, hit, hne⟩ := st
    obtain ⟨xs, x, hq, hx⟩ := hg
    obtain ⟨its, rv, pl, hz⟩ := I.list hq
    obtain ⟨u, hu, ru⟩ := rv.get hx
    have en_lt : en < s.heap.objs.size := Heap.lt_size hen
    have it_lt : it < s.heap.objs.size := by
      obtain ⟨_, q, _⟩ := hit
      exact Heap.lt_size q
    have nel := list_not_iter pl.isList hit
    have Dr := Draws.list (prog := X.prog) (w := X.w) (A := X.A.in1) (I.ok.hd hc) it a nel its.toArray
    have hi : i < its.toArray.size := by
      have := (List.getElem?_eq_some_iff.mp hu).1
      simpa using this
    by_cases ea : en = a
    · exfalso
      obtain ⟨o, ho, hc', _⟩ := pl.isList
      rw [← ea, hen] at ho
      cases ho
      have e : Value.type "enumerate" = Value.type "list" := hc'
      exact absurd e (by decide)
    refine wpAny_pyNext_enum_itemC Dr hen ⟨hit, pl.isList⟩ hi hne (by simp [hne, ea]) fun x' h' tk hP ho hit' hT hsz hk => ?_
    have ex : x' = u := by
      have e1 : its.toArray[i]? = some x' := hP
      have e2 : its.toArray[i]? = some u := by simpa using hu
      exact Option.some.inj (e1.symm.trans e2)
    subst ex
    refine ⟨_, rfl, wpAny_letOwnedTupleGo_enum (s := { s with heap := h', toks := tk + 1 }) ho fun h2 hen2 sb => ?_⟩
    have hT2 : h2.get? s.heap.objs.size = some { cls := .type "tuple", data := .seq #[.int (k + (i : Int)) tk, x'] } :=
      (sb.2 _ (Nat.ne_of_gt en_lt)).trans hT
    have fresh : H s.heap.objs.size = none := I.hok.fresh (Nat.le_refl _)
    have new : ObjOk X.prog X.w (upd H s.heap.objs.size (.tup [.int (k + (i : Nat)), x])) h2 s.heap.objs.size (.tup [.int (k + (i : Nat)), x]) :=
      ⟨(by show 2 ≤ sizeLine; decide), [.int (k + (i : Int)) tk, x'], .cons ⟨_, rfl⟩ (.cons ru .nil), ⟨_, hT2, rfl, _, rfl⟩⟩
    have keepAll : ∀ b ob, b ∉ [en, it] → s.heap.get? b = some ob → h2.get? b = some ob := fun b ob hb q => by
      have n1 : b ≠ en := fun z => hb (by simp [z])
      have n2 : b ≠ it := fun z => hb (by simp [z])
      exact (sb.2 b n1).trans (hk b ob n1 n2 q)
    have I1 := I.turnedNew (t' := tk + 1) (ch := [en, it]) keepAll hf (Nat.le_refl _) new
    refine ⟨.ref s.heap.objs.size, _, I1, rfl, ⟨_, x, rfl, fresh, rfl, fun ys hy => ?_⟩, ⟨⟨x', ?_⟩, ?_, hne⟩, fun b hb => ?_⟩
    · rw [I.list_inj hy hq]
      exact hx
    · have e1 : k + ((i + 1 : Nat) : Int) = k + (i : Int) + 1 := by omega
      rw [e1]
      exact hen2
    · exact hit'.1.at fun o q => (sb.2 it (Ne.symm hne)).trans q
    · have hb' : b < s.heap.objs.size := by
        have two : b = en ∨ b = it := by simpa using hb
        rcases two with z | z
        · rw [z]; exact en_lt
        · rw [z]; exact it_lt
      rw [upd_ne (Nat.ne_of_lt hb')]
      exact (hf b hb).1
  done := by
    intro X hP hw hK hc i pins s σ H E I hf st hg
    subst hP hw hK
    obtain ⟨⟨old, hen⟩, hit, hne⟩ := st
    obtain ⟨xs, hq, hx⟩ := hg
    obtain ⟨its, rv, pl, hz⟩ := I.list hq
    have hl := rv.length
    obtain ⟨f0, f1, f2, f3, f4, f5⟩ := hf it (by simp)
    have hT : s.TypeIs (.ref en) "enumerate" := ⟨_, hen, rfl⟩
    unfold pyNext
    refine wpAny_bind (wpAny_attempt (wpAny_callSpecial?_slot (name := Str.ofString "__next__") hT F.slot_enumerate_next
      (wpAny_call_entry F.slot_enumerate_next hT F.entry_enumerate_next ?_
        (F.args_enumerate_next_1 _))))
    show wpAny _ _ (field (.ref en) 2 >>= _) _ _ _
    refine wpAny_bind (wpAny_field hen rfl (x := .ref it) rfl ?_)
    refine wpAny_bind (wpAny_nextOf_list_end (I.ok.hd hc) hit pl.isList (by simp; omega) fun h' e eb hcl => ?_)
    obtain ⟨o, ho, hcs⟩ := hcl
    refine wpAny_bind (wpAny_isInstance (T := "StopIteration") (b := true) ⟨o, ho, hcs⟩ isSubtype_stop ?_)
    exact wpAny_pure ⟨rfl, I.turned (t' := s.toks) (fun b o hb q => eb b o hb q) f0 f1 f3 f4 f5⟩
  self := fun A i s Q E st h => let ⟨⟨_, hen⟩, _⟩ := st; wpAny_pyIter_enum hen h
/-- enumerate(xs, start=k), walked into a written tuple of names -/
def iEnumS (K : PySem.W.Frag) (ta tk : TA) : TI := fun σ H R => ta σ H fun vs H1 => tk σ H1 fun zs H2 =>
  ∃ a xs k, vs = [.ref a] ∧ zs = [.int k] ∧ SqL K H2 a xs ∧ -(2 ^ 63) ≤ k ∧ k < 2 ^ 63 ∧ R (IteS K a k) H2
theorem pi_enumS {X : Cx} {e ke : Expr} {ta tk : TA} {p pos tpos kp : Pos} {elts : List Expr} {kk : Nat} (hg : Gl X "enumerate") (hm : X.mg "enumerate" = none) (ha : PA X [e] ta) (hk : PK X [⟨some "start", ke, kp⟩] tk)
    (hs : starEach [e] X.env = (false, eval e X.env) :: starEach [] X.env := by rfl) (hpl : ((backTo pos (starEach [e] X.env)).any (·.1) || (backToKw pos (keywordEach [⟨some "start", ke, kp⟩] X.env)).any (·.1.isNone)) = false := by rfl) :
    PI X (.Tuple elts kk tpos) (.Call (.Name "enumerate" p) [e] [⟨some "start", ke, kp⟩] pos) (iEnumS X.K ta tk) := by
  refine ⟨fun pins s σ H R I h => ?_⟩
  refine wpAny_Call_Name_kw (ld_blt I hg hm boot_enumerate ?_)
  refine PySem.W.callWith_of (P := fun _ => True) hpl (fun h _ => ⟨.machine, .inr (.inl rfl), PySem.W.Looks.of_pure rfl⟩) (evalArgs_kw2 (by rfl)
    (thn (ha.run pos pins s σ H _ I h) fun us s1 ⟨vs, H1, I1, r1, q1⟩ => thn (hk.run pos pins s1 σ H1 _ I1 q1) fun ws s2 ⟨zs, H2, I2, r2, q2⟩ => ⟨True.intro, ?_⟩) hs)
  obtain ⟨a, xs, k, ex, ez, hq, b1, b2, q⟩ := q2
  subst ex ez
  obtain ⟨u, eu, ru⟩ := vals1 r1
  obtain ⟨z, ez, rz⟩ := vals1 r2
  subst eu ez
  cases ru
  obtain ⟨t, et⟩ := (show ∃ t, z = Value.int k t from rz)
  subst et
  obtain ⟨its, rv, pl, hz⟩ := I2.list hq
  show wpAny _ _ (call (.type "enumerate") [.ref a] [(Str.ofString "start", .int k t)]) _ _ _
  refine enum_begins_start (begins_list a its.toArray) pl.isList b1 b2 fun h' hen hit hsz hkp => wpAny_pyIter_enum hen ?_
  have I3 : Inv X pins σ H2 { s2 with heap := h' } := I2.kept (t' := s2.toks) hkp
  refine ⟨s2.heap.objs.size + 1, [s2.heap.objs.size + 1, s2.heap.objs.size], _, _, H2, rfl, I3, turn_enumS a (s2.heap.objs.size + 1) s2.heap.objs.size k,
    ⟨⟨.none, ?_⟩, ⟨_, hit, rfl, rfl⟩, Nat.succ_ne_self _⟩, fun b hb => ?_, q⟩
  · show IsEnum h' _ _ (k + 0) _
    rw [Int.add_zero]
    exact hen
  · have two : b = s2.heap.objs.size + 1 ∨ b = s2.heap.objs.size := by simpa using hb
    have hle : s2.heap.objs.size ≤ b := by
      rcases two with z | z
      · rw [z]; exact Nat.le_add_right _ 1
      · rw [z]; exact Nat.le_refl _
    exact I2.fpOk hle (I2.hok.fresh hle)
theorem walk_enumS {K : PySem.W.Frag} {a : Addr} {k : Int} {xs : List V} :
    Walk (IteS K a k) xs.length (fun H => SqL K H a xs) (fun i H v H' => ∃ T x, v = .ref T ∧ H T = none ∧ H' = upd H T (.tup [.int (k + (i : Nat)), x]) ∧ xs[i]? = some x) :=
  ⟨fun i H hi q => ⟨xs, xs[i], q, List.getElem?_eq_getElem hi⟩, fun H q => ⟨xs, q, Nat.le_refl _⟩, fun i H v H' hi q ⟨T, x, e1, e2, e3, e4⟩ => ⟨T, x, e1, e2, e3, e4 xs q⟩⟩
theorem same_mk {H H' : Hp} {x dx : Addr} {o u : HO} (hx : H x = none) (hd : H dx = none) (s : ∀ b v, b ≠ x → (upd (upd H dx o) x u) b = some v → H' b = some v) : Same H H' := fun b v e => by
  have n1 : b ≠ x := ne_of_none e hx
  exact s b v n1 (by rw [upd_ne n1, upd_ne (ne_of_none e hd)]; exact e)
end DP
namespace DP
open PySem PySem.Spec PyProof.Rows L2
structure ClsAt (K : PySem.W.Frag) (mg : Str → Option Value) (x : Str) (C : Addr) : Prop where
  cl : Cls K C
  mkC : PySem.W.makesIn K C = true
  kp : PySem.W.keepIn K (.ref C) = true
  gC : mg x = some (.ref C)
structure MAt (K : PySem.W.Frag) (C : Addr) (m qual : Str) (st : Stmt) (ps : List Str) : Prop where
  ex : ∃ f fd, Fun K m qual st f fd ∧ Meth K C m f ∧ Binds K fd ps []
structure MDef (P : Program) (w : World) (K : PySem.W.Frag) (mg : Str → Option Value) (base : Heap) (CX : CXT) (k : Nat) (C : Addr) (m : Str) (ps : List Str) (ds : List V) (sp : Sp) : Prop where
  ex : ∃ f fd us, FnOk P w K mg base CX k f fd ps sp ∧ Meth K C m f ∧ Binds K fd ps us ∧ Vals ds us
section
variable {X : Cx} {CX : CXT} {k : Nat} {C : Addr} {x m : Str} {ps : List Str} {ds : List V} {sp : Sp} {E : XK} {o e : Expr} {es : List Expr} {ta : TE} {t : TA} {p pos apos : Pos} {pl : Sem Bool}
theorem pe_m (D : MDef X.prog X.w X.K X.mg X.base CX k C m ps ds sp) (c : Cls X.K C) (hr : Room k X.A) (hx : Passes CX X E) (he : PE X o ta) (ha : PA X (e :: es) t)
    (hst : starEach (e :: es) X.env = (false, eval e X.env) :: starEach es X.env := by rfl) (hpl : (backTo pos (starEach es X.env)).any (·.1) = false := by rfl)
    (ht : eval (.Call (.Attribute o m apos) (e :: es) [] pos) X.env = (do
      let ov ← eval o X.env
      standAt apos.atName
      let (f, first) ← holding [ov] (getMethod ov m pl)
      callWith pos f first (backTo pos (starEach (e :: es) X.env)) (backToKw pos (keywordEach [] X.env))) := by rfl) :
    PE X (.Call (.Attribute o m apos) (e :: es) [] pos) (tMeth C m sp ds E ta t) := by
  obtain ⟨f, fd, us, G, M, b, v⟩ := D.ex
  exact pe_meth (pl := pl) he c M G hr b v hx ha hst hpl ht
theorem pe_m0 (D : MDef X.prog X.w X.K X.mg X.base CX k C m ps ds sp) (c : Cls X.K C) (hr : Room k X.A) (hx : Passes CX X E) (he : PE X o ta)
    (ht : eval (.Call (.Attribute o m apos) [] [] pos) X.env = (do
      let ov ← eval o X.env
      standAt apos.atName
      let (f, first) ← holding [ov] (getMethod ov m pl)
      callWith pos f first (backTo pos (starEach [] X.env)) (backToKw pos (keywordEach [] X.env))) := by rfl) :
    PE X (.Call (.Attribute o m apos) [] [] pos) (tMeth C m sp ds E ta tNil) := by
  obtain ⟨f, fd, us, G, M, b, v⟩ := D.ex
  exact pe_meth0 (pl := pl) he c M G hr b v hx ht
theorem pe_mk (D : MDef X.prog X.w X.K X.mg X.base CX k C "__init__" ps ds sp) (c : ClsAt X.K X.mg x C) (hr : Room (k + 1) X.A) (hx : Passes CX X E) (ha : PA X (e :: es) t) (hg : Gl X x := by rfl)
    (hdb : (x == ("__debug__" : Str)) = false := by decide) (he : starEach (e :: es) X.env = (false, eval e X.env) :: starEach es X.env := by rfl) (hpl : (backTo pos (starEach es X.env)).any (·.1) = false := by rfl) :
    PE X (.Call (.Name x p) (e :: es) [] pos) (tMake C sp ds E t) := by
  obtain ⟨f, fd, us, G, M, b, v⟩ := D.ex
  exact pe_make ⟨c.mkC, M.at_, M.fn, c.kp⟩ G hr hg c.gC b v hx ha hdb he hpl
/-- a constant of the module -/
theorem pe_gi {i : Int} (h : ∃ t, X.mg x = some (.int i t)) (hg : Gl X x := by rfl) (hd : (x == ("__debug__" : Str)) = false := by decide) : PE X (.Name x pos) (tC (.int i)) := by
  obtain ⟨t, h⟩ := h
  exact pe_glob hg h ⟨t, rfl⟩ hd
theorem pe_gs {z : Str} (h : ∃ t, X.mg x = some (.str z t)) (hg : Gl X x := by rfl) (hd : (x == ("__debug__" : Str)) = false := by decide) : PE X (.Name x pos) (tC (.str z)) := by
  obtain ⟨t, h⟩ := h
  exact pe_glob hg h ⟨t, rfl⟩ hd
theorem pe_ga {a : Addr} (h : X.mg x = some (.ref a)) (hg : Gl X x := by rfl) (hd : (x == ("__debug__" : Str)) = false := by decide) : PE X (.Name x pos) (tC (.ref a)) := pe_glob hg h rfl hd
end
/-- a method with one default -/
structure MAtD (K : PySem.W.Frag) (C : Addr) (m qual : Str) (st : Stmt) (ps : List Str) (ds : List V) : Prop where
  ex : ∃ f fd us, FunD K m qual (defArgs st) (defBody st) (defScope st) ds [] f fd ∧ Meth K C m f ∧ Binds K fd ps us ∧ Vals ds us
theorem pe_fldK {X : Cx} {K : PySem.W.Frag} (h : X.K = K) {e : Expr} {ta : TE} {f : Str} {pos : Pos} (he : PE X e ta) (hb : attributeBase e f X.env (eval e X.env) = eval e X.env) : PE X (.Attribute e f pos) (tFld K ta f) := by
  subst h
  exact pe_fld he hb
theorem pg_tupK {X : Cx} {K : PySem.W.Frag} (h : X.K = K) {es : List Expr} {k n : Nat} {pos : Pos} {g : TGs} (hc : X.calm = true) (hs : PGs X es g)
    (hn : (assignEach es X.env).length = n := by rfl) (hst : (assignEach es X.env).findIdx? (·.1) = none := by rfl) : PG X (.Tuple es k pos) (gTup K n g) := by
  subst h
  exact pg_tup hc hs hn hst
section
variable {P : Program} {w : World} {K : PySem.W.Frag} {mg : Str → Option Value} {base : Heap} {C : Addr} {m qual : Str} {st : Stmt} {ps N : List Str} {k : Nat} {sp sp' : Sp} {ds : List V}
theorem MAt.ok (F : MAt K C m qual st ps) (S : FnScope N ps (defScope st)) (len : ∀ vs H Q E, sp vs H Q E → vs.length = ps.length)
    (hbody : ∀ (f : Addr) (cdv : Value) (A : Around) (outer : List Env) (s : Shared) (H : Hp) (vs : List V) (Q : VK) (E : XK), Room k (A.deeper (envOfC qual (defScope st) s.heap.objs.size f cdv)) → sp vs H Q E →
      ∃ t, PSs (cxOf CX0 P w K mg base N qual (defScope st) f cdv A outer s H E).nox (defBody st) t ∧ t { nx := fun _ H' => Q .non H', rt := Q } (start N vs) H) : MDef P w K mg base CX0 (k + 1) C m ps [] sp := by
  obtain ⟨f, fd, G, M, b⟩ := F.ex
  exact ⟨f, fd, [], G.ok S len (fun cdv A outer s H vs Q E hr h => hbody f cdv A outer s H vs Q E hr h), M, b, .nil⟩
theorem MAtD.ok (F : MAtD K C m qual st ps ds) (S : FnScope N ps (defScope st)) (len : ∀ vs H Q E, sp vs H Q E → vs.length = ps.length)
    (hbody : ∀ (f : Addr) (cdv : Value) (A : Around) (outer : List Env) (s : Shared) (H : Hp) (vs : List V) (Q : VK) (E : XK), Room k (A.deeper (envOfC qual (defScope st) s.heap.objs.size f cdv)) → sp vs H Q E →
      ∃ t, PSs (cxOf CX0 P w K mg base N qual (defScope st) f cdv A outer s H E).nox (defBody st) t ∧ t { nx := fun _ H' => Q .non H', rt := Q } (start N vs) H) : MDef P w K mg base CX0 (k + 1) C m ps ds sp := by
  obtain ⟨f, fd, us, G, M, b, v⟩ := F.ex
  refine ⟨f, fd, us, G.ok S len (fun cdv A outer s H vs Q E hr h => ?_), M, b, v⟩
  obtain ⟨t, h1, h2⟩ := hbody f cdv A outer s H vs Q E hr h
  exact ⟨t, h1.nox, h2⟩
theorem MDef.imp (D : MDef P w K mg base CX0 k C m ps ds sp) (h : ∀ vs H Q E, sp' vs H Q E → sp vs H Q E) : MDef P w K mg base CX0 k C m ps ds sp' := by
  obtain ⟨f, fd, us, G, M, b, v⟩ := D.ex
  exact ⟨f, fd, us, G.imp h, M, b, v⟩
end
theorem lk_hit {a : Str} {b : V} {es : List (Str × V)} : List.lookup a ((a, b) :: es) = some b := by
  unfold List.lookup
  rw [beq_self_eq_true]
theorem lk_miss {a k : Str} {b : V} {es : List (Str × V)} (h : (a == k) = false) : List.lookup a ((k, b) :: es) = List.lookup a es := by
  show (match a == k with | true => some b | false => List.lookup a es) = _
  rw [h]
theorem put_hit {f : Str} {v x : V} {r : List (Str × V)} : putF f v ((f, x) :: r) = (f, v) :: r := by
  show (if f = f then _ else _) = _
  rw [if_pos rfl]
theorem put_miss {f g : Str} {v x : V} {r : List (Str × V)} (h : (g == f) = false) : putF f v ((g, x) :: r) = (g, x) :: putF f v r := by
  have h1 : ¬ g = f := fun z => by
    rw [z, beq_self_eq_true] at h
    cases h
  show (if g = f then _ else _) = _
  rw [if_neg h1]
theorem put_nil {f : Str} {v : V} : putF f v [] = [(f, v)] := rfl
theorem put_lt {f : Str} {v : V} {k m : Nat} : ∀ {fs : List (Str × V)}, fs.length + (k + 1) < m → (putF f v fs).length + k < m
  | [], h => by
    show 1 + k < m
    have : 0 + (k + 1) < m := h
    omega
  | (g, x) :: r, h => by
    rw [List.length_cons] at h
    show (if g = f then (g, v) :: r else (g, x) :: putF f v r).length + k < m
    by_cases c : g = f
    · rw [if_pos c, List.length_cons]
      omega
    · rw [if_neg c, List.length_cons]
      have := put_lt (f := f) (v := v) (k := k + 1) (m := m) (fs := r) (by omega)
      omega
theorem put_lt0 {f : Str} {v : V} {m : Nat} {fs : List (Str × V)} (h : fs.length + 1 < m) : (putF f v fs).length < m := put_lt (k := 0) h
theorem ins_ne {H : Hp} {a b C D dx dy : Addr} {fs gs : List (Str × V)} (h : H a = some (.ins C dx fs)) (h' : H b = some (.ins D dy gs)) (n : fs.length ≠ gs.length) : a ≠ b := fun z => by
  rw [z, h'] at h
  injection h with h
  injection h with h1 h2 h3
  exact n (by rw [h3])
/-- all that stood but a is as it was -/
def SameX (a : Addr) (H H' : Hp) : Prop := ∀ b o, b ≠ a → H b = some o → H' b = some o
theorem SameX.refl (a : Addr) (H : Hp) : SameX a H H := fun _ _ _ h => h
theorem SameX.trans {a : Addr} {H H1 H2 : Hp} (x : SameX a H H1) (y : SameX a H1 H2) : SameX a H H2 := fun b o n h => y b o n (x b o n h)
theorem SameX.of {a : Addr} {H H' : Hp} (s : Same H H') : SameX a H H' := fun b o _ h => s b o h
theorem SameX.upd {a : Addr} {H : Hp} {o : HO} : SameX a H (L2.upd H a o) := fun b u n h => by rw [upd_ne n]; exact h
theorem SameX.at_ {a : Addr} {H H' : Hp} {o : HO} (x : SameX a H H') : SameX a H (L2.upd H' a o) := fun b u n h => by rw [upd_ne n]; exact x b u n h
end DP
namespace DP
open PySem PySem.Spec PyProof.Rows L2
def topS (i : Nat) : Stmt := PySem.Challenge.pw_downpass_k11_faults_of_plans.main.body.getD i (.Pass ⟨0, 0, 0, 0⟩)
end DP
namespace DP
open PySem PySem.Spec PyProof.Rows L2
abbrev s_lines_of : Stmt := topS 8
theorem sc_lines_of : FnScope ["text", "rows", "last", "number", "row"] ["text"] (defScope s_lines_of) := ⟨rfl, rfl, rfl, by decide +kernel, rfl, by decide +kernel, by decide +kernel⟩
abbrev s_is_name : Stmt := topS 9
theorem sc_is_name : FnScope ["word", "letter"] ["word"] (defScope s_is_name) := ⟨rfl, rfl, rfl, by decide +kernel, rfl, by decide +kernel, by decide +kernel⟩
abbrev s_is_number : Stmt := topS 10
theorem sc_is_number : FnScope ["word", "letter"] ["word"] (defScope s_is_number) := ⟨rfl, rfl, rfl, by decide +kernel, rfl, by decide +kernel, by decide +kernel⟩
abbrev s_Line___init__ : Stmt := inClass (topS 11) 0
theorem sc_Line___init__ : FnScope ["self", "number", "row"] ["self", "number", "row"] (defScope s_Line___init__) := ⟨rfl, rfl, rfl, by decide +kernel, rfl, by decide +kernel, by decide +kernel⟩
abbrev s_Line_has_more : Stmt := inClass (topS 11) 2
theorem sc_Line_has_more : FnScope ["self"] ["self"] (defScope s_Line_has_more) := ⟨rfl, rfl, rfl, by decide +kernel, rfl, by decide +kernel, by decide +kernel⟩
abbrev s_Line_due : Stmt := inClass (topS 11) 3
theorem sc_Line_due : FnScope ["self", "word"] ["self"] (defScope s_Line_due) := ⟨rfl, rfl, rfl, by decide +kernel, rfl, by decide +kernel, by decide +kernel⟩
abbrev s_Line_step : Stmt := inClass (topS 11) 4
theorem sc_Line_step : FnScope ["self"] ["self"] (defScope s_Line_step) := ⟨rfl, rfl, rfl, by decide +kernel, rfl, by decide +kernel, by decide +kernel⟩
abbrev s_Line_read_choice : Stmt := inClass (topS 11) 5
theorem sc_Line_read_choice : FnScope ["self", "choices", "word"] ["self", "choices"] (defScope s_Line_read_choice) := ⟨rfl, rfl, rfl, by decide +kernel, rfl, by decide +kernel, by decide +kernel⟩
abbrev s_Line_read_number : Stmt := inClass (topS 11) 6
theorem sc_Line_read_number : FnScope ["self", "least", "most", "word", "number"] ["self", "least", "most"] (defScope s_Line_read_number) := ⟨rfl, rfl, rfl, by decide +kernel, rfl, by decide +kernel, by decide +kernel⟩
abbrev s_Line_read_field : Stmt := inClass (topS 11) 7
theorem sc_Line_read_field : FnScope ["self", "word", "least", "most"] ["self", "word", "least", "most"] (defScope s_Line_read_field) := ⟨rfl, rfl, rfl, by decide +kernel, rfl, by decide +kernel, by decide +kernel⟩
abbrev s_Line_due_name : Stmt := inClass (topS 11) 8
theorem sc_Line_due_name : FnScope ["self", "word"] ["self"] (defScope s_Line_due_name) := ⟨rfl, rfl, rfl, by decide +kernel, rfl, by decide +kernel, by decide +kernel⟩
abbrev s_Line_read_new_name : Stmt := inClass (topS 11) 9
theorem sc_Line_read_new_name : FnScope ["self", "used", "word"] ["self", "used"] (defScope s_Line_read_new_name) := ⟨rfl, rfl, rfl, by decide +kernel, rfl, by decide +kernel, by decide +kernel⟩
abbrev s_Line_read_known_name : Stmt := inClass (topS 11) 10
theorem sc_Line_read_known_name : FnScope ["self", "names", "least", "word", "number"] ["self", "names", "least"] (defScope s_Line_read_known_name) := ⟨rfl, rfl, rfl, by decide +kernel, rfl, by decide +kernel, by decide +kernel⟩
abbrev s_Line_finish : Stmt := inClass (topS 11) 11
theorem sc_Line_finish : FnScope ["self"] ["self"] (defScope s_Line_finish) := ⟨rfl, rfl, rfl, by decide +kernel, rfl, by decide +kernel, by decide +kernel⟩
def lnF (n : Int) (wl : Addr) (r : Nat) (c : Int) : List (Str × V) := [("number", .int n), ("words", .ref wl), ("read", .int r), ("column", .int c)]
theorem lnF_number {n : Int} {wl : Addr} {r : Nat} {c : Int} : (lnF n wl r c).lookup ("number" : Str) = some (.int n) := by unfold lnF; exact lk_hit
theorem lnF_words {n : Int} {wl : Addr} {r : Nat} {c : Int} : (lnF n wl r c).lookup ("words" : Str) = some (.ref wl) := by unfold lnF; exact (lk_miss (by decide +kernel)).trans lk_hit
theorem lnF_read {n : Int} {wl : Addr} {r : Nat} {c : Int} : (lnF n wl r c).lookup ("read" : Str) = some (.int r) := by
  unfold lnF; exact (lk_miss (by decide +kernel)).trans ((lk_miss (by decide +kernel)).trans lk_hit)
theorem lnF_column {n : Int} {wl : Addr} {r : Nat} {c : Int} : (lnF n wl r c).lookup ("column" : Str) = some (.int c) := by
  unfold lnF; exact (lk_miss (by decide +kernel)).trans ((lk_miss (by decide +kernel)).trans ((lk_miss (by decide +kernel)).trans lk_hit))
theorem lnF_no {n : Int} {wl : Addr} {r : Nat} {c : Int} {m : Str} (h1 : (m == ("number" : Str)) = false) (h2 : (m == ("words" : Str)) = false) (h3 : (m == ("read" : Str)) = false) (h4 : (m == ("column" : Str)) = false) : (lnF n wl r c).lookup m = none := by
  unfold lnF
  exact (lk_miss h1).trans ((lk_miss h2).trans ((lk_miss h3).trans ((lk_miss h4).trans rfl)))
theorem lnF_put_column {n : Int} {wl : Addr} {r : Nat} {c d : Int} : putF "column" (.int d) (lnF n wl r c) = lnF n wl r d := by
  unfold lnF
  rw [put_miss (by decide +kernel), put_miss (by decide +kernel), put_miss (by decide +kernel), put_hit]
theorem lnF_put_read {n : Int} {wl : Addr} {r q : Nat} {c : Int} : putF "read" (.int q) (lnF n wl r c) = lnF n wl q c := by
  unfold lnF
  rw [put_miss (by decide +kernel), put_miss (by decide +kernel), put_hit]
/-- the line at a, its words ws, r of them passed -/
structure LnAt (C : Addr) (H : Hp) (a : Addr) (ws : List Str) (r : Nat) : Prop where
  ex : ∃ dx n wl c, H a = some (.ins C dx (lnF n wl r c)) ∧ H wl = some (.lst (ws.map V.str))
  ok : ∀ w ∈ ws, WdOk w
theorem LnAt.same {C : Addr} {H H' : Hp} {a : Addr} {ws : List Str} {r : Nat} (h : LnAt C H a ws r) (s : Same H H') : LnAt C H' a ws r := by
  obtain ⟨dx, n, wl, c, h1, h2⟩ := h.ex
  exact ⟨⟨dx, n, wl, c, s _ _ h1, s _ _ h2⟩, h.ok⟩
theorem map_at {ws : List Str} {i : Nat} {w : Str} (h : ws[i]? = some w) : atI (ws.map V.str) (i : Int) = some (.str w) := atI_nat (by rw [List.getElem?_map, h]; rfl)
theorem wd_ne {w : Str} (h : WdOk w) : ¬ w = Str.ofString "" := fun z => h.1 (by rw [z]; decide +kernel)
theorem wd_len {w : Str} (h : WdOk w) : w.length ≤ 16 := by rw [TL.len_tl]; exact h.2.2.2
/-- what the text tells of the class Line and its module -/
structure TxtL (K : PySem.W.Frag) (mg : Str → Option Value) (C : Addr) : Prop where
  B : Bt mg
  c_Line : ClsAt K mg "Line" C
  n_number : NoAttr K C "number"
  n_words : NoAttr K C "words"
  n_read : NoAttr K C "read"
  n_column : NoAttr K C "column"
  g_LETTERS : ∃ t, mg "LETTERS" = some (.str "abcdefghijklmnopqrstuvwxyzABCDEFGHIJKLMNOPQRSTUVWXYZ" t)
  g_DIGITS : ∃ t, mg "DIGITS" = some (.str "0123456789" t)
  g_MOST_NAME : ∃ t, mg "MOST_NAME" = some (.int 15 t)
  g_MOST_DIGITS : ∃ t, mg "MOST_DIGITS" = some (.int 7 t)
section
variable {P : Program} {w : World} {K : PySem.W.Frag} {mg : Str → Option Value} {base : Heap} {C : Addr}
def spLnInit (C : Addr) : Sp := fun vs H Q _ => ∃ (x dx : Addr) (n : Int) (ws : List Str), vs = [.ref x, .int n, .str (row ws)] ∧ H x = some (.ins C dx []) ∧ ws ≠ [] ∧ (∀ w ∈ ws, WdOk w) ∧ ws.length ≤ 2000 ∧
  ∀ H', SameX x H H' → LnAt C H' x ws 0 → Q .non H'
theorem d_Line_init (T : TxtL K mg C) (A : MAt K C "__init__" "Line.__init__" s_Line___init__ ["self", "number", "row"]) : MDef P w K mg base CX0 1 C "__init__" ["self", "number", "row"] [] (spLnInit C) := by
  refine A.ok sc_Line___init__ (fun vs H Q E h => ?_) (fun f cdv A outer s H vs Q E hr h => ?_)
  · obtain ⟨x, dx, n, ws, rfl, _⟩ := h
    rfl
  obtain ⟨x, dx, n, ws, rfl, hx, hn, hok, hlen, q⟩ := h
  refine ⟨_, pss_cons (ps_fld (pv 0) (pv 1) rfl)
  (pss_cons (ps_fld (pv 0) (pe_split (pv 2) pe_str) rfl)
  (pss_cons (ps_fld (pv 0) pe_int rfl)
  (pss_one (ps_fld (pv 0) pe_int rfl))))
    , ?_⟩
  have hl := row_len hok
  refine ⟨_, rfl, _, rfl, x, C, dx, _, rfl, hx, T.c_Line.cl, T.n_number, (by show 0 < 1000; decide), ?_⟩
  refine ⟨_, rfl, ⟨_, rfl⟩, _, sp, rfl, rfl, by decide +kernel, Nat.le_trans (Nat.add_le_add_right (Nat.le_trans hl (Nat.mul_le_mul_right 17 hlen)) 2) (by decide), fun wl hwl => ?_⟩
  have exw : x ≠ wl := fun z => by
    rw [← z, upd_same] at hwl
    cases hwl
  refine ⟨_, rfl, x, C, dx, _, rfl, (upd_ne exw).trans upd_same, T.c_Line.cl, T.n_words, (by repeat (first | refine put_lt0 ?_ | refine put_lt ?_ | (show _ < _; decide))), ?_⟩
  refine ⟨_, rfl, x, C, dx, _, rfl, upd_same, T.c_Line.cl, T.n_read, (by repeat (first | refine put_lt0 ?_ | refine put_lt ?_ | (show _ < _; decide))), ?_⟩
  refine ⟨_, rfl, x, C, dx, _, rfl, upd_same, T.c_Line.cl, T.n_column, (by repeat (first | refine put_lt0 ?_ | refine put_lt ?_ | (show _ < _; decide))), ?_⟩
  have hwl0 : H wl = none := by
    rw [upd_ne exw.symm] at hwl
    exact hwl
  refine q _ (fun b o nb hb => ?_) ⟨⟨dx, n, wl, 1, ?_, ?_⟩, hok⟩
  · rw [upd_ne nb, upd_ne nb, upd_ne nb, upd_ne (ne_of_none hb hwl0), upd_ne nb]
    exact hb
  · rw [upd_same]
    unfold lnF
    repeat (first | rw [put_nil] | rw [put_miss (by decide +kernel)])
    rfl
  · rw [upd_ne exw.symm, upd_ne exw.symm, upd_ne exw.symm, upd_same, row_split hn hok]
def spHasMore (C : Addr) : Sp := fun vs H Q _ => ∃ (a : Addr) (ws : List Str) (r : Nat), vs = [.ref a] ∧ LnAt C H a ws r ∧ Q (.bl (decide (r < ws.length))) H
theorem d_has_more (T : TxtL K mg C) (A : MAt K C "has_more" "Line.has_more" s_Line_has_more ["self"]) : MDef P w K mg base CX0 1 C "has_more" ["self"] [] (spHasMore C) := by
  have B := T.B
  refine A.ok sc_Line_has_more (fun vs H Q E h => ?_) (fun f cdv A outer s H vs Q E hr h => ?_)
  · obtain ⟨a, ws, r, rfl, _⟩ := h
    rfl
  obtain ⟨a, ws, r, rfl, hL, q⟩ := h
  obtain ⟨dx, n, wl, c, h1, h2⟩ := hL.ex
  refine ⟨_, pss_one (ps_ret (pe_cmpR op_lt (pe_fld (pv 0) rfl) (pe_callB (call_len_seq) (by rfl) B.len (by decide +kernel) (pa_cons (pe_fld (pv 0) rfl) pa_nil)) (nomark _)))
    , ?_⟩
  refine ⟨_, rfl, a, C, dx, _, _, rfl, h1, T.c_Line.cl, T.n_read, lnF_read, _, rfl, a, C, dx, _, _, rfl, h1, T.c_Line.cl, T.n_words, lnF_words, wl, _, rfl, .inl (SqL.of h2), _, _, rfl, rfl, ?_⟩
  have e : decide ((r : Int) < (((ws.map V.str).length : Nat) : Int)) = decide (r < ws.length) := by
    rw [List.length_map]
    exact decide_eq_decide.mpr (by omega)
  show Q (.bl (decide ((r : Int) < (((ws.map V.str).length : Nat) : Int)))) H
  rw [e]
  exact q
def spDue (C : Addr) : Sp := fun vs H Q _ => ∃ (a : Addr) (ws : List Str) (r : Nat) (u : Str), vs = [.ref a] ∧ LnAt C H a ws r ∧ ws[r]? = some u ∧ Q (.str u) H
theorem d_due (T : TxtL K mg C) (D_Line_has_more : MDef P w K mg base CX0 1 C "has_more" ["self"] [] (spHasMore C)) (A : MAt K C "due" "Line.due" s_Line_due ["self"]) : MDef P w K mg base CX0 2 C "due" ["self"] [] (spDue C) := by
  have B := T.B
  refine A.ok sc_Line_due (fun vs H Q E h => ?_) (fun f cdv A outer s H vs Q E hr h => ?_)
  · obtain ⟨a, ws, r, u, rfl, _⟩ := h
    rfl
  obtain ⟨a, ws, r, u, rfl, hL, hu, q⟩ := h
  obtain ⟨dx, n, wl, c, h1, h2⟩ := hL.ex
  have hr' : r < ws.length := (List.getElem?_eq_some_iff.mp hu).1
  refine ⟨_, pss_cons (ps_if (pt_not (pt_val (pe_m0 D_Line_has_more T.c_Line.cl (hr.mono (by omega)) pass0 (pv 0))))
      (pss_one (ps_never))
      (pss_nil))
  (pss_cons (ps_set (i := 1) sc_Line_due.nd rfl (Or.inl rfl) (pe_ix ix_list (pe_fld (pv 0) rfl) (pe_fld (pv 0) rfl) (fun _ _ => rfl)))
  (pss_cons (ps_if (pt_cmpR op_eq (pv 1) pe_str (nomark _))
      (pss_one (ps_never))
      (pss_nil))
  (pss_one (ps_ret (pv 1)))))
    , ?_⟩
  refine ⟨_, rfl, a, dx, _, rfl, h1, lnF_no (by decide +kernel) (by decide +kernel) (by decide +kernel) (by decide +kernel), a, ws, r, rfl, hL, _, rfl, iteF' (by rw [decide_eq_true hr']; rfl) ?_⟩
  refine ⟨_, rfl, a, C, dx, _, _, rfl, h1, T.c_Line.cl, T.n_words, lnF_words, _, rfl, a, C, dx, _, _, rfl, h1, T.c_Line.cl, T.n_read, lnF_read, wl, _, _, _, rfl, rfl, SqL.of h2, map_at hu, ?_⟩
  refine ⟨_, rfl, rfl, _, rfl, iteF' (decide_eq_false fun z => wd_ne (hL.ok u (List.mem_of_getElem? hu)) (V.str.inj z)) ?_⟩
  exact ⟨_, rfl, q⟩
def spStep (C : Addr) : Sp := fun vs H Q _ => ∃ (a : Addr) (ws : List Str) (r : Nat), vs = [.ref a] ∧ LnAt C H a ws r ∧ r < ws.length ∧ ∀ H', SameX a H H' → LnAt C H' a ws (r + 1) → Q .non H'
theorem d_step (T : TxtL K mg C) (A : MAt K C "step" "Line.step" s_Line_step ["self"]) : MDef P w K mg base CX0 1 C "step" ["self"] [] (spStep C) := by
  have B := T.B
  refine A.ok sc_Line_step (fun vs H Q E h => ?_) (fun f cdv A outer s H vs Q E hr h => ?_)
  · obtain ⟨a, ws, r, rfl, _⟩ := h
    rfl
  obtain ⟨a, ws, r, rfl, hL, hr', q⟩ := h
  obtain ⟨dx, n, wl, c, h1, h2⟩ := hL.ex
  have hu : ws[r]? = some ws[r] := List.getElem?_eq_getElem hr'
  have ea : wl ≠ a := ne_of h2 h1 (fun z => nomatch z)
  have hw := wd_len (hL.ok _ (List.getElem_mem hr'))
  refine ⟨_, pss_cons (ps_fldaug (pv 0) (pe_op op_add (pe_callB (call_len_str) (by rfl) B.len (by decide +kernel) (pa_cons (pe_ix ix_list (pe_fld (pv 0) rfl) (pe_fld (pv 0) rfl) (fun _ _ => rfl)) pa_nil)) pe_int) in_add)
  (pss_one (ps_fldaug (pv 0) pe_int in_add))
    , ?_⟩
  refine ⟨_, rfl, a, C, dx, _, _, rfl, h1, T.c_Line.cl, T.n_column, lnF_column, _, rfl, a, C, dx, _, _, rfl, h1, T.c_Line.cl, T.n_words, lnF_words, _, rfl, a, C, dx, _, _, rfl, h1, T.c_Line.cl, T.n_read, lnF_read, wl, _, _, _, rfl, rfl, SqL.of h2, map_at hu, ?_⟩
  refine ⟨_, rfl, Nat.le_trans hw (by decide), _, _, rfl, rfl, _, _, rfl, rfl, dx, _, h1, (by show 4 < 1000; decide), ?_⟩
  rw [lnF_put_column]
  refine ⟨_, rfl, a, C, dx, _, _, rfl, upd_same, T.c_Line.cl, T.n_read, lnF_read, _, _, rfl, rfl, dx, _, upd_same, (by show 4 < 1000; decide), ?_⟩
  rw [show ((r : Int) + 1) = ((r + 1 : Nat) : Int) by omega, lnF_put_read, upd_upd]
  exact q _ SameX.upd ⟨⟨dx, n, wl, _, upd_same, by rw [upd_ne ea]; exact h2⟩, hL.ok⟩
def spChoice (K : PySem.W.Frag) (C : Addr) : Sp := fun vs H Q _ => ∃ (a : Addr) (ws : List Str) (r : Nat) (t : Addr) (cs : List Str) (u : Str), vs = [.ref a, .ref t] ∧ LnAt C H a ws r ∧ SqT K H t (cs.map V.str) ∧ ws[r]? = some u ∧ u ∈ cs ∧
  ∀ H', SameX a H H' → LnAt C H' a ws (r + 1) → Q (.str u) H'
theorem inV_str {u : Str} {cs : List Str} : inV (.str u) (cs.map V.str) = decide (u ∈ cs) := by
  unfold inV
  rw [List.any_map]
  induction cs with
  | nil => rfl
  | cons c r ih =>
    rw [List.any_cons, ih]
    show (decide (c = u) || decide (u ∈ r)) = decide (u ∈ c :: r)
    rw [← Bool.decide_or]
    refine decide_eq_decide.mpr ⟨fun z => ?_, fun z => ?_⟩
    · rcases z with z | z
      · rw [z]; exact List.mem_cons_self
      · exact List.mem_cons_of_mem _ z
    · rcases List.mem_cons.mp z with z | z
      · exact .inl z.symm
      · exact .inr z
theorem flat_strs {cs : List Str} : (cs.map V.str).all flatV = true := by
  rw [List.all_map]
  exact List.all_eq_true.mpr fun _ _ => rfl
theorem d_read_choice (T : TxtL K mg C) (D_Line_due : MDef P w K mg base CX0 2 C "due" ["self"] [] (spDue C)) (D_Line_step : MDef P w K mg base CX0 1 C "step" ["self"] [] (spStep C))
    (A : MAt K C "read_choice" "Line.read_choice" s_Line_read_choice ["self", "choices"]) : MDef P w K mg base CX0 3 C "read_choice" ["self", "choices"] [] (spChoice K C) := by
  have B := T.B
  refine A.ok sc_Line_read_choice (fun vs H Q E h => ?_) (fun f cdv A outer s H vs Q E hr h => ?_)
  · obtain ⟨a, ws, r, t, cs, u, rfl, _⟩ := h
    rfl
  obtain ⟨a, ws, r, t, cs, u, rfl, hL, hT, hu, hc, q⟩ := h
  obtain ⟨dx, n, wl, c, h1, h2⟩ := hL.ex
  have hr' : r < ws.length := (List.getElem?_eq_some_iff.mp hu).1
  have no : ∀ {m : Str}, (m == ("number" : Str)) = false → (m == ("words" : Str)) = false → (m == ("read" : Str)) = false → (m == ("column" : Str)) = false → (lnF n wl r c).lookup m = none := fun z1 z2 z3 z4 => lnF_no z1 z2 z3 z4
  refine ⟨_, pss_cons (ps_set (i := 2) sc_Line_read_choice.nd rfl (Or.inl rfl) (pe_m0 D_Line_due T.c_Line.cl (hr.mono (by omega)) pass0 (pv 0)))
  (pss_cons (ps_if (pt_cmpR op_notIn_seq (pv 2) (pv 1) (by rfl))
      (pss_one (ps_never))
      (pss_nil))
  (pss_cons (ps_expr (pe_m0 D_Line_step T.c_Line.cl (hr.mono (by omega)) pass0 (pv 0)))
  (pss_one (ps_ret (pv 2)))))
    , ?_⟩
  refine ⟨_, rfl, a, dx, _, rfl, h1, no (by decide +kernel) (by decide +kernel) (by decide +kernel) (by decide +kernel), a, ws, r, u, rfl, hL, hu, ?_⟩
  refine ⟨_, rfl, _, rfl, t, _, rfl, .inr hT, rfl, flat_strs, _, rfl, iteF' (by rw [inV_str, decide_eq_true hc]; rfl) ?_⟩
  refine ⟨_, rfl, a, dx, _, rfl, h1, no (by decide +kernel) (by decide +kernel) (by decide +kernel) (by decide +kernel), a, ws, r, rfl, hL, hr', fun H' s' L' => ?_⟩
  exact ⟨_, rfl, q H' s' L'⟩
/-- a number's text -/
theorem dig_in {c : Nat} (h : 48 ≤ c ∧ c ≤ 57) : c ∈ ("0123456789" : Str).cps.toList := by
  have all : ∀ d, d < 58 → 48 ≤ d → d ∈ ("0123456789" : Str).cps.toList := by decide +kernel
  exact all c (by omega) h.1
def spIsNum : Sp := fun vs H Q _ => ∃ n : Int, vs = [.str (num n)] ∧ 0 ≤ n ∧ n < 10000000 ∧ ∀ H', Same H H' → Q (.bl true) H'
theorem str1_inj {a b : Nat} (h : (⟨#[a]⟩ : Str) = ⟨#[b]⟩) : a = b := by
  injection h with h
  injection h with h
  injection h
theorem d_is_number (T : TxtL K mg C) (A : At K mg "is_number" s_is_number ["word"]) : DefOk P w K mg base CX0 1 "is_number" ["word"] spIsNum := by
  have B := T.B
  refine A.ok sc_is_number (fun vs H Q E h => ?_) (fun f cdv A outer s H vs Q E hr h => ?_)
  · obtain ⟨n, rfl, _⟩ := h
    rfl
  obtain ⟨n, rfl, h0, h1, q⟩ := h
  refine ⟨_, pss_cons (ps_if (PW.pt (pw_or (pt_cmpR op_gt (pe_callB (call_len_str) (by rfl) B.len (by decide +kernel) (pa_cons (pv 0) pa_nil)) (pe_gi T.g_MOST_DIGITS) (nomark _)) (pw_or1 (PW.pt (pw_and (pt_cmpR op_eq (pe_ix ix_str (pv 0) pe_int (fun _ _ => rfl)) pe_str (nomark _)) (pw_and1 (pt_cmpR op_ne (pv 0) pe_str (nomark _))))))))
      (pss_one (ps_ret pe_bl))
      (pss_nil))
  (pss_one (ps_ret (pe_callB (cr_all rfl) (by rfl) B.all (by decide +kernel) (pa_cons (pe_lc (own := [("letter", 1)])  rfl sc_is_number.nd (pi_str (pv 0)) (blkOk_by (own := [("letter", 1)]) (N := ["word", "letter"]) (sc := defScope s_is_number) (by decide +kernel)) (fun _ _ _ _ _ => pg_name (i := 1) sc_is_number.nd rfl (Or.inl rfl)) (fun _ _ _ _ _ => pts_nil) (fun _ _ _ _ _ => (pe_cmpR op_in_sign (pv 1) (pe_gs T.g_DIGITS) (by rfl)))) pa_nil))))
    , ?_⟩
  have htl := num_nat h0
  have hlen : (num n).length ≤ 7 := by
    rw [TL.len_tl, show TL.tl (num n) = tl (num n) from rfl, htl]
    exact numL_len7 (by omega)
  cases hq : TL.numL n.toNat with
  | nil => exact absurd hq (TL.numL_ne _)
  | cons d ds =>
  have hd : atI (num n).cps.toList 0 = some d := by
    show atI (tl (num n)) 0 = some d
    rw [htl, hq]
    exact atI_nat (j := 0) rfl
  have all : ∀ c ∈ tl (num n), 48 ≤ c ∧ c ≤ 57 := fun c hc => by
    rw [htl] at hc
    exact TL.numL_digits _ c hc
  refine ⟨_, rfl, _, rfl, Nat.le_trans hlen (by decide), _, _, rfl, rfl, _, rfl, iteF' (decide_eq_false (by omega)) ?_⟩
  refine ⟨_, rfl, _, _, d, rfl, rfl, Nat.le_trans hlen (by decide), hd, rfl, _, rfl, ite2 (fun c => ?_) (fun c => ?_)⟩
  · -- a leading 0: it is 0
    have e0 : (⟨#[d]⟩ : Str) = Str.ofString "0" := V.str.inj (of_decide_eq_true c)
    have e1 : (Str.ofString "0" : Str) = ⟨#[48]⟩ := by decide +kernel
    have ed : d = 48 := str1_inj (e0.trans e1)
    have en : n.toNat = 0 := numL_head ds (by rw [hq, ed])
    have en2 : n = 0 := by omega
    subst en2
    refine ⟨_, rfl, rfl, _, rfl, iteF' (by rw [decide_eq_true (show (V.str (num 0) = V.str (Str.ofString "0")) from by decide +kernel)]; rfl) ?_⟩
    refine ⟨_, rfl, _, rfl, fun D hD => lc_it (walk_str) (fun i H' => Same H H' ∧ H' D = some (.lst ((List.replicate i true).map V.bl))) ⟨same_new hD _, upd_same⟩ (fun _ _ _ _ => True.intro) (fun i x H1 H2 hi hI hy => ?_) (fun H1 hI => ?_)⟩
    · obtain ⟨rfl, ch, hch, rfl⟩ := hy
      obtain ⟨hs, hDD⟩ := hI
      have hcm : ch ∈ tl (num 0) := by
        have : (num 0).cps.toList[i]? = some ch := by rw [Array.getElem?_toList]; exact hch
        exact List.mem_of_getElem? this
      refine ⟨rfl, _, rfl, ch, _, rfl, rfl, _, hDD, ?_, same_at hD hs _, ?_⟩
      · rw [List.length_map, List.length_replicate]
        have : (num 0).cps.size ≤ 7 := hlen
        exact small1000 (by omega)
      · rw [upd_same, List.replicate_succ', List.map_append, decide_eq_true (dig_in (all ch hcm))]
        rfl
    · obtain ⟨hs, hDD⟩ := hI
      refine ⟨D, _, rfl, SqL.of hDD, ?_⟩
      rw [show (List.replicate (num 0).cps.size true).all id = true from List.all_eq_true.mpr fun b hb => by rw [List.eq_of_mem_replicate hb]; rfl]
      exact q H1 hs
  · refine iteF ?_
    refine ⟨_, rfl, _, rfl, fun D hD => lc_it (walk_str) (fun i H' => Same H H' ∧ H' D = some (.lst ((List.replicate i true).map V.bl))) ⟨same_new hD _, upd_same⟩ (fun _ _ _ _ => True.intro) (fun i x H1 H2 hi hI hy => ?_) (fun H1 hI => ?_)⟩
    · obtain ⟨rfl, ch, hch, rfl⟩ := hy
      obtain ⟨hs, hDD⟩ := hI
      have hcm : ch ∈ tl (num n) := by
        have : (num n).cps.toList[i]? = some ch := by rw [Array.getElem?_toList]; exact hch
        exact List.mem_of_getElem? this
      refine ⟨rfl, _, rfl, ch, _, rfl, rfl, _, hDD, ?_, same_at hD hs _, ?_⟩
      · rw [List.length_map, List.length_replicate]
        have : (num n).cps.size ≤ 7 := hlen
        exact small1000 (by omega)
      · rw [upd_same, List.replicate_succ', List.map_append, decide_eq_true (dig_in (all ch hcm))]
        rfl
    · obtain ⟨hs, hDD⟩ := hI
      refine ⟨D, _, rfl, SqL.of hDD, ?_⟩
      rw [show (List.replicate (num n).cps.size true).all id = true from List.all_eq_true.mpr fun b hb => by rw [List.eq_of_mem_replicate hb]; rfl]
      exact q H1 hs
def spNumber (C : Addr) : Sp := fun vs H Q _ => ∃ (a : Addr) (ws : List Str) (r : Nat) (lo hi n : Int), vs = [.ref a, .int lo, .int hi] ∧ LnAt C H a ws r ∧ ws[r]? = some (num n) ∧ 0 ≤ n ∧ n < 10000000 ∧ lo ≤ n ∧ n ≤ hi ∧
  ∀ H', SameX a H H' → LnAt C H' a ws (r + 1) → Q (.int n) H'
theorem int_of_num {n : Int} (h0 : 0 ≤ n) (h1 : n < 10000000) : PySem.intText? (num n) = some n ∧ (num n).length ≤ 640 := by
  have e : n = ((n.toNat : Nat) : Int) := by omega
  have hl := numL_len7 (n := n.toNat) (by omega)
  refine ⟨?_, ?_⟩
  · have h := TL.int_num (n := n.toNat) (Nat.le_trans hl (by decide))
    rw [← e] at h
    exact h
  · rw [TL.len_tl, show TL.tl (num n) = tl (num n) from rfl, num_nat h0]
    omega
theorem d_read_number (T : TxtL K mg C) (D_is_number : DefOk P w K mg base CX0 1 "is_number" ["word"] spIsNum) (D_Line_due : MDef P w K mg base CX0 2 C "due" ["self"] [] (spDue C)) (D_Line_step : MDef P w K mg base CX0 1 C "step" ["self"] [] (spStep C))
    (A : MAt K C "read_number" "Line.read_number" s_Line_read_number ["self", "least", "most"]) : MDef P w K mg base CX0 3 C "read_number" ["self", "least", "most"] [] (spNumber C) := by
  have B := T.B
  refine A.ok sc_Line_read_number (fun vs H Q E h => ?_) (fun f cdv A outer s H vs Q E hr h => ?_)
  · obtain ⟨a, ws, r, lo, hi, n, rfl, _⟩ := h
    rfl
  obtain ⟨a, ws, r, lo, hi, n, rfl, hL, hu, h0, hm, hlo, hhi, q⟩ := h
  obtain ⟨dx, nn, wl, c, h1, h2⟩ := hL.ex
  have hr' : r < ws.length := (List.getElem?_eq_some_iff.mp hu).1
  refine ⟨_, pss_cons (ps_set (i := 3) sc_Line_read_number.nd rfl (Or.inl rfl) (pe_m0 D_Line_due T.c_Line.cl (hr.mono (by omega)) pass0 (pv 0)))
  (pss_cons (ps_if (pt_not (pt_val (pe_f D_is_number (hr.mono (by omega)) pass0 (pa_cons (pv 3) pa_nil))))
      (pss_one (ps_never))
      (pss_nil))
  (pss_cons (ps_set (i := 4) sc_Line_read_number.nd rfl (Or.inl rfl) (pe_callTy (call_int_str) (by rfl) B.int (by decide +kernel) (pa_cons (pv 3) pa_nil)))
  (pss_cons (ps_if (PW.pt (pw_or (pt_cmpR op_lt (pv 4) (pv 1) (nomark _)) (pw_or1 (pt_cmpR op_gt (pv 4) (pv 2) (nomark _)))))
      (pss_one (ps_never))
      (pss_nil))
  (pss_cons (ps_expr (pe_m0 D_Line_step T.c_Line.cl (hr.mono (by omega)) pass0 (pv 0)))
  (pss_one (ps_ret (pv 4)))))))
    , ?_⟩
  refine ⟨_, rfl, a, dx, _, rfl, h1, lnF_no (by decide +kernel) (by decide +kernel) (by decide +kernel) (by decide +kernel), a, ws, r, _, rfl, hL, hu, ?_⟩
  refine ⟨_, rfl, n, rfl, h0, hm, fun H1 s1 => ⟨_, rfl, iteF ?_⟩⟩
  obtain ⟨i1, i2⟩ := int_of_num h0 hm
  refine ⟨_, rfl, _, n, rfl, i1, i2, ?_⟩
  refine ⟨_, rfl, _, rfl, _, _, rfl, rfl, _, rfl, iteF' (decide_eq_false (by omega)) ?_⟩
  refine ⟨_, rfl, _, rfl, _, _, rfl, rfl, _, rfl, iteF' (decide_eq_false (by omega)) ?_⟩
  refine ⟨_, rfl, a, dx, _, rfl, s1 _ _ h1, lnF_no (by decide +kernel) (by decide +kernel) (by decide +kernel) (by decide +kernel), a, ws, r, rfl, hL.same s1, hr', fun H' s' L' => ?_⟩
  exact ⟨_, rfl, q H' ((SameX.of s1).trans s') L'⟩
def spField (C : Addr) : Sp := fun vs H Q _ => ∃ (a : Addr) (ws : List Str) (r : Nat) (u : Str) (lo hi n : Int), vs = [.ref a, .str u, .int lo, .int hi] ∧ LnAt C H a ws r ∧ ws[r]? = some u ∧ ws[r + 1]? = some (num n) ∧ 0 ≤ n ∧ n < 10000000 ∧ lo ≤ n ∧ n ≤ hi ∧
  ∀ H', SameX a H H' → LnAt C H' a ws (r + 2) → Q (.int n) H'
theorem d_read_field (T : TxtL K mg C) (D_Line_read_choice : MDef P w K mg base CX0 3 C "read_choice" ["self", "choices"] [] (spChoice K C)) (D_Line_read_number : MDef P w K mg base CX0 3 C "read_number" ["self", "least", "most"] [] (spNumber C))
    (A : MAt K C "read_field" "Line.read_field" s_Line_read_field ["self", "word", "least", "most"]) : MDef P w K mg base CX0 4 C "read_field" ["self", "word", "least", "most"] [] (spField C) := by
  have B := T.B
  refine A.ok sc_Line_read_field (fun vs H Q E h => ?_) (fun f cdv A outer s H vs Q E hr h => ?_)
  · obtain ⟨a, ws, r, u, lo, hi, n, rfl, _⟩ := h
    rfl
  obtain ⟨a, ws, r, u, lo, hi, n, rfl, hL, hu, hn, h0, hm, hlo, hhi, q⟩ := h
  obtain ⟨dx, nn, wl, c, h1, h2⟩ := hL.ex
  refine ⟨_, pss_cons (ps_expr (pe_m D_Line_read_choice T.c_Line.cl (hr.mono (by omega)) pass0 (pv 0) (pa_cons (pe_tup (pa_cons (pv 1) pa_nil)) pa_nil)))
  (pss_one (ps_ret (pe_m D_Line_read_number T.c_Line.cl (hr.mono (by omega)) pass0 (pv 0) (pa_cons (pv 2) (pa_cons (pv 3) pa_nil)))))
    , ?_⟩
  refine ⟨_, rfl, a, dx, _, rfl, h1, lnF_no (by decide +kernel) (by decide +kernel) (by decide +kernel) (by decide +kernel), _, rfl, (by show 1 ≤ sizeLine; decide), fun t ht => ?_⟩
  have s1 : Same H (upd H t (.tup [.str u])) := same_new ht _
  refine ⟨a, ws, r, t, [u], u, rfl, hL.same s1, SqT.of upd_same, hu, List.mem_cons_self, fun H2 s2 L2 => ?_⟩
  obtain ⟨dx2, n2, wl2, c2, g1, g2⟩ := L2.ex
  refine ⟨_, rfl, a, dx2, _, rfl, g1, lnF_no (by decide +kernel) (by decide +kernel) (by decide +kernel) (by decide +kernel), _, rfl, _, rfl, a, ws, r + 1, lo, hi, n, rfl, L2, hn, h0, hm, hlo, hhi, fun H3 s3 L3 => ?_⟩
  exact q H3 (((SameX.of s1).trans s2).trans s3) L3
/-- a name's text -/
theorem let_in {c : Nat} (h : isL c = true) : c ∈ ("abcdefghijklmnopqrstuvwxyzABCDEFGHIJKLMNOPQRSTUVWXYZ" : Str).cps.toList := by
  have all : ∀ d, d < 123 → isL d = true → d ∈ ("abcdefghijklmnopqrstuvwxyzABCDEFGHIJKLMNOPQRSTUVWXYZ" : Str).cps.toList := by decide +kernel
  exact all c (by have := isL_lt h; omega) h
def spIsName : Sp := fun vs H Q _ => ∃ u : Str, vs = [.str u] ∧ NameOk u ∧ ∀ H', Same H H' → Q (.bl true) H'
theorem d_is_name (T : TxtL K mg C) (A : At K mg "is_name" s_is_name ["word"]) : DefOk P w K mg base CX0 1 "is_name" ["word"] spIsName := by
  have B := T.B
  refine A.ok sc_is_name (fun vs H Q E h => ?_) (fun f cdv A outer s H vs Q E hr h => ?_)
  · obtain ⟨u, rfl, _⟩ := h
    rfl
  obtain ⟨u, rfl, hu, q⟩ := h
  refine ⟨_, pss_cons (ps_if (PW.pt (pw_or (pt_cmpR op_gt (pe_callB (call_len_str) (by rfl) B.len (by decide +kernel) (pa_cons (pv 0) pa_nil)) (pe_gi T.g_MOST_NAME) (nomark _)) (pw_or1 (pt_cmpR op_notIn_sign (pe_ix ix_str (pv 0) pe_int (fun _ _ => rfl)) (pe_gs T.g_LETTERS) (by rfl)))))
      (pss_one (ps_ret pe_bl))
      (pss_nil))
  (pss_one (ps_ret (pe_callB (cr_all rfl) (by rfl) B.all (by decide +kernel) (pa_cons (pe_lc (own := [("letter", 1)])  rfl sc_is_name.nd (pi_str (pv 0)) (blkOk_by (own := [("letter", 1)]) (N := ["word", "letter"]) (sc := defScope s_is_name) (by decide +kernel)) (fun _ _ _ _ _ => pg_name (i := 1) sc_is_name.nd rfl (Or.inl rfl)) (fun _ _ _ _ _ => pts_nil) (fun _ _ _ _ _ => (pe_or (pe_cmpR op_in_sign (pv 1) (pe_gs T.g_LETTERS) (by rfl)) (pe_one (pe_cmpR op_in_sign (pv 1) (pe_gs T.g_DIGITS) (by rfl)))))) pa_nil))))
    , ?_⟩
  have signs := hu.signs
  obtain ⟨d, ds, e, hd, _, hl⟩ := hu
  have hlen : u.length ≤ 15 := by
    rw [TL.len_tl, show TL.tl u = tl u from rfl, e, List.length_cons]
    omega
  have hat : atI u.cps.toList 0 = some d := by
    show atI (tl u) 0 = some d
    rw [e]
    exact atI_nat (j := 0) rfl
  refine ⟨_, rfl, _, rfl, Nat.le_trans hlen (by decide), _, _, rfl, rfl, _, rfl, iteF' (decide_eq_false (by omega)) ?_⟩
  refine ⟨_, rfl, _, _, d, rfl, rfl, Nat.le_trans hlen (by decide), hat, d, _, rfl, rfl, _, rfl, iteF' (by rw [decide_eq_true (let_in hd)]; rfl) ?_⟩
  refine ⟨_, rfl, _, rfl, fun D hD => lc_it (walk_str) (fun i H' => Same H H' ∧ H' D = some (.lst ((List.replicate i true).map V.bl))) ⟨same_new hD _, upd_same⟩ (fun _ _ _ _ => True.intro) (fun i x H1 H2 hi hI hy => ?_) (fun H1 hI => ?_)⟩
  · obtain ⟨rfl, ch, hch, rfl⟩ := hy
    obtain ⟨hs, hDD⟩ := hI
    have hcm : ch ∈ tl u := by
      have : u.cps.toList[i]? = some ch := by rw [Array.getElem?_toList]; exact hch
      exact List.mem_of_getElem? this
    have room : ((List.replicate i true).map V.bl).length < sizeLine := by
      rw [List.length_map, List.length_replicate]
      have : u.cps.size ≤ 15 := hlen
      exact small1000 (by omega)
    refine ⟨rfl, _, rfl, ch, _, rfl, rfl, _, rfl, ite2 (fun c => ?_) (fun c => ?_)⟩
    · refine ⟨_, hDD, room, same_at hD hs _, ?_⟩
      rw [upd_same, List.replicate_succ', List.map_append]
      rfl
    · have c' : ¬ ch ∈ ("abcdefghijklmnopqrstuvwxyzABCDEFGHIJKLMNOPQRSTUVWXYZ" : Str).cps.toList := fun z => c (decide_eq_true z)
      have hdg : isD ch = true := by
        rcases Bool.or_eq_true _ _ ▸ (signs ch hcm) with z | z
        · exact absurd (let_in z) c'
        · exact z
      refine ⟨_, rfl, ch, _, rfl, rfl, _, hDD, room, same_at hD hs _, ?_⟩
      rw [upd_same, List.replicate_succ', List.map_append, decide_eq_true (dig_in (isD_lt hdg))]
      rfl
  · obtain ⟨hs, hDD⟩ := hI
    refine ⟨D, _, rfl, SqL.of hDD, ?_⟩
    rw [show (List.replicate u.cps.size true).all id = true from List.all_eq_true.mpr fun b hb => by rw [List.eq_of_mem_replicate hb]; rfl]
    exact q H1 hs
def spDueName (C : Addr) : Sp := fun vs H Q _ => ∃ (a : Addr) (ws : List Str) (r : Nat) (u : Str), vs = [.ref a] ∧ LnAt C H a ws r ∧ ws[r]? = some u ∧ NameOk u ∧ ∀ H', Same H H' → Q (.str u) H'
theorem d_due_name (T : TxtL K mg C) (D_is_name : DefOk P w K mg base CX0 1 "is_name" ["word"] spIsName) (D_Line_due : MDef P w K mg base CX0 2 C "due" ["self"] [] (spDue C))
    (A : MAt K C "due_name" "Line.due_name" s_Line_due_name ["self"]) : MDef P w K mg base CX0 3 C "due_name" ["self"] [] (spDueName C) := by
  have B := T.B
  refine A.ok sc_Line_due_name (fun vs H Q E h => ?_) (fun f cdv A outer s H vs Q E hr h => ?_)
  · obtain ⟨a, ws, r, u, rfl, _⟩ := h
    rfl
  obtain ⟨a, ws, r, u, rfl, hL, hu, hn, q⟩ := h
  obtain ⟨dx, nn, wl, c, h1, h2⟩ := hL.ex
  refine ⟨_, pss_cons (ps_set (i := 1) sc_Line_due_name.nd rfl (Or.inl rfl) (pe_m0 D_Line_due T.c_Line.cl (hr.mono (by omega)) pass0 (pv 0)))
  (pss_cons (ps_if (pt_not (pt_val (pe_f D_is_name (hr.mono (by omega)) pass0 (pa_cons (pv 1) pa_nil))))
      (pss_one (ps_never))
      (pss_nil))
  (pss_one (ps_ret (pv 1))))
    , ?_⟩
  refine ⟨_, rfl, a, dx, _, rfl, h1, lnF_no (by decide +kernel) (by decide +kernel) (by decide +kernel) (by decide +kernel), a, ws, r, _, rfl, hL, hu, ?_⟩
  exact ⟨_, rfl, u, rfl, hn, fun H1 s1 => ⟨_, rfl, iteF ⟨_, rfl, q H1 s1⟩⟩⟩
def spNewName (K : PySem.W.Frag) (C : Addr) : Sp := fun vs H Q _ => ∃ (a : Addr) (ws : List Str) (r : Nat) (p : Addr) (ns : List Str) (u : Str), vs = [.ref a, .ref p] ∧ LnAt C H a ws r ∧ SqL K H p (ns.map V.str) ∧ ws[r]? = some u ∧ NameOk u ∧ u ∉ ns ∧
  ∀ H', SameX a H H' → LnAt C H' a ws (r + 1) → Q (.str u) H'
theorem d_read_new_name (T : TxtL K mg C) (D_Line_due_name : MDef P w K mg base CX0 3 C "due_name" ["self"] [] (spDueName C)) (D_Line_step : MDef P w K mg base CX0 1 C "step" ["self"] [] (spStep C))
    (A : MAt K C "read_new_name" "Line.read_new_name" s_Line_read_new_name ["self", "used"]) : MDef P w K mg base CX0 4 C "read_new_name" ["self", "used"] [] (spNewName K C) := by
  have B := T.B
  refine A.ok sc_Line_read_new_name (fun vs H Q E h => ?_) (fun f cdv A outer s H vs Q E hr h => ?_)
  · obtain ⟨a, ws, r, p, ns, u, rfl, _⟩ := h
    rfl
  obtain ⟨a, ws, r, p, ns, u, rfl, hL, hP, hu, hn, hno, q⟩ := h
  obtain ⟨dx, nn, wl, c, h1, h2⟩ := hL.ex
  have hr' : r < ws.length := (List.getElem?_eq_some_iff.mp hu).1
  refine ⟨_, pss_cons (ps_set (i := 2) sc_Line_read_new_name.nd rfl (Or.inl rfl) (pe_m0 D_Line_due_name T.c_Line.cl (hr.mono (by omega)) pass0 (pv 0)))
  (pss_cons (ps_if (pt_cmpR op_in_seq (pv 2) (pv 1) (by rfl))
      (pss_one (ps_never))
      (pss_nil))
  (pss_cons (ps_expr (pe_m0 D_Line_step T.c_Line.cl (hr.mono (by omega)) pass0 (pv 0)))
  (pss_one (ps_ret (pv 2)))))
    , ?_⟩
  refine ⟨_, rfl, a, dx, _, rfl, h1, lnF_no (by decide +kernel) (by decide +kernel) (by decide +kernel) (by decide +kernel), a, ws, r, _, rfl, hL, hu, hn, fun H1 s1 => ?_⟩
  refine ⟨_, rfl, _, rfl, p, _, rfl, .inl (s1.seq hP), rfl, flat_strs, _, rfl, iteF' (by rw [inV_str, decide_eq_false hno]; rfl) ?_⟩
  refine ⟨_, rfl, a, dx, _, rfl, s1 _ _ h1, lnF_no (by decide +kernel) (by decide +kernel) (by decide +kernel) (by decide +kernel), a, ws, r, rfl, hL.same s1, hr', fun H' s' L' => ?_⟩
  exact ⟨_, rfl, q H' ((SameX.of s1).trans s') L'⟩
/-- the name's first place, and no least one is asked -/
def spKnownName (K : PySem.W.Frag) (C : Addr) : Sp := fun vs H Q _ => ∃ (a : Addr) (ws : List Str) (r : Nat) (p : Addr) (ns : List Str) (u : Str) (j : Nat) (least : Int), vs = [.ref a, .ref p, .int least] ∧ LnAt C H a ws r ∧ SqL K H p (ns.map V.str) ∧ ws[r]? = some u ∧ NameOk u ∧
  ns[j]? = some u ∧ ns.Nodup ∧ least ≤ (j : Int) ∧ ∀ H', SameX a H H' → LnAt C H' a ws (r + 1) → Q (.int (j : Int)) H'
theorem nodup_first {ns : List Str} {u : Str} {j : Nat} (hd : ns.Nodup) (h : ns[j]? = some u) : ∀ (m : Nat) (z : V), m < j → (ns.map V.str)[m]? = some z → eqV z (.str u) = false := fun m z hm hz => by
  rw [List.getElem?_map] at hz
  cases e : ns[m]? with
  | none => rw [e] at hz; cases hz
  | some y =>
    rw [e] at hz
    have ez : V.str y = z := Option.some.inj hz
    rw [← ez]
    show decide (y = u) = false
    refine decide_eq_false fun q => ?_
    obtain ⟨h1, e1⟩ := List.getElem?_eq_some_iff.mp e
    obtain ⟨h2, e2⟩ := List.getElem?_eq_some_iff.mp h
    have := (List.getElem_inj hd).mp (e1.trans (q.trans e2.symm))
    omega
theorem read_known_body {f : Addr} {cdv : Value} {A : Around} {outer : List Env} {s : Shared} {H : Hp} {vs : List V} {Q : VK} {E : XK} (T : TxtL K mg C) (D_Line_due_name : MDef P w K mg base CX0 3 C "due_name" ["self"] [] (spDueName C)) (D_Line_step : MDef P w K mg base CX0 1 C "step" ["self"] [] (spStep C))
    (hr : Room 3 (A.deeper (envOfC "Line.read_known_name" (defScope s_Line_read_known_name) s.heap.objs.size f cdv))) (h : spKnownName K C vs H Q E) :
    ∃ t, PSs (cxOf CX0 P w K mg base ["self", "names", "least", "word", "number"] "Line.read_known_name" (defScope s_Line_read_known_name) f cdv A outer s H E).nox (defBody s_Line_read_known_name) t ∧ t { nx := fun _ H' => Q .non H', rt := Q } (start ["self", "names", "least", "word", "number"] vs) H := by
  have B := T.B
  obtain ⟨a, ws, r, p, ns, u, j, least, rfl, hL, hP, hu, hn, hj, hd, hle, q⟩ := h
  obtain ⟨dx, nn, wl, c, h1, h2⟩ := hL.ex
  have hr' : r < ws.length := (List.getElem?_eq_some_iff.mp hu).1
  have hm : u ∈ ns := List.mem_of_getElem? hj
  refine ⟨_, pss_cons (ps_set (i := 3) sc_Line_read_known_name.nd rfl (Or.inl rfl) (pe_m0 D_Line_due_name T.c_Line.cl (hr.mono (by omega)) pass0 (pv 0)))
  (pss_cons (ps_if (pt_cmpR op_notIn_seq (pv 3) (pv 1) (by rfl))
      (pss_one (ps_never))
      (pss_nil))
  (pss_cons (ps_set (i := 4) sc_Line_read_known_name.nd rfl (Or.inl rfl) (pe_bm PySem.F.plainAttrs_list PySem.F.slot_list_index PySem.F.type_list_index mt_index (pv 1) (pa_cons (pv 3) pa_nil)))
  (pss_cons (ps_if (pt_cmpR op_lt (pv 4) (pv 2) (nomark _))
      (pss_one (ps_never))
      (pss_nil))
  (pss_cons (ps_expr (pe_m0 D_Line_step T.c_Line.cl (hr.mono (by omega)) pass0 (pv 0)))
  (pss_one (ps_ret (pv 4)))))))
    , ?_⟩
  refine ⟨_, rfl, a, dx, _, rfl, h1, lnF_no (by decide +kernel) (by decide +kernel) (by decide +kernel) (by decide +kernel), a, ws, r, _, rfl, hL, hu, hn, fun H1 s1 => ?_⟩
  refine ⟨_, rfl, _, rfl, p, _, rfl, .inl (s1.seq hP), rfl, flat_strs, _, rfl, iteF' (by rw [inV_str, decide_eq_true hm]; rfl) ?_⟩
  refine ⟨_, rfl, .inl ⟨rfl, _, s1.seq hP⟩, _, rfl, p, _, _, j, .str u, rfl, rfl, s1.seq hP, rfl, flat_strs, by rw [List.getElem?_map, hj]; rfl, decide_eq_true rfl, nodup_first hd hj, ?_⟩
  refine ⟨_, rfl, _, rfl, _, _, rfl, rfl, _, rfl, iteF' (decide_eq_false (by omega)) ?_⟩
  refine ⟨_, rfl, a, dx, _, rfl, s1 _ _ h1, lnF_no (by decide +kernel) (by decide +kernel) (by decide +kernel) (by decide +kernel), a, ws, r, rfl, hL.same s1, hr', fun H' s' L' => ?_⟩
  exact ⟨_, rfl, q H' ((SameX.of s1).trans s') L'⟩
theorem d_read_known_name (T : TxtL K mg C) (D_Line_due_name : MDef P w K mg base CX0 3 C "due_name" ["self"] [] (spDueName C)) (D_Line_step : MDef P w K mg base CX0 1 C "step" ["self"] [] (spStep C))
    (A : MAtD K C "read_known_name" "Line.read_known_name" s_Line_read_known_name ["self", "names", "least"] [.int 0]) : MDef P w K mg base CX0 4 C "read_known_name" ["self", "names", "least"] [.int 0] (spKnownName K C) := by
  refine A.ok sc_Line_read_known_name (fun vs H Q E h => ?_) (fun f cdv A outer s H vs Q E hr h => read_known_body T D_Line_due_name D_Line_step hr h)
  obtain ⟨a, ws, r, p, ns, u, j, least, rfl, _⟩ := h
  rfl
def spFinish (C : Addr) : Sp := fun vs H Q _ => ∃ (a : Addr) (ws : List Str), vs = [.ref a] ∧ LnAt C H a ws ws.length ∧ Q .non H
theorem d_finish (T : TxtL K mg C) (D_Line_has_more : MDef P w K mg base CX0 1 C "has_more" ["self"] [] (spHasMore C)) (A : MAt K C "finish" "Line.finish" s_Line_finish ["self"]) : MDef P w K mg base CX0 3 C "finish" ["self"] [] (spFinish C) := by
  have B := T.B
  refine A.ok sc_Line_finish (fun vs H Q E h => ?_) (fun f cdv A outer s H vs Q E hr h => ?_)
  · obtain ⟨a, ws, rfl, _⟩ := h
    rfl
  obtain ⟨a, ws, rfl, hL, q⟩ := h
  obtain ⟨dx, nn, wl, c, h1, h2⟩ := hL.ex
  refine ⟨_, pss_one (ps_if (pt_val (pe_m0 D_Line_has_more T.c_Line.cl (hr.mono (by omega)) pass0 (pv 0)))
      (pss_cons (ps_never)
      (pss_one (ps_never)))
      (pss_nil))
    , ?_⟩
  exact ⟨_, rfl, a, dx, _, rfl, h1, lnF_no (by decide +kernel) (by decide +kernel) (by decide +kernel) (by decide +kernel), a, ws, _, rfl, hL, _, rfl, iteF' (decide_eq_false (Nat.lt_irrefl _)) q⟩
def spLines (C : Addr) : Sp := fun vs H Q _ => ∃ (lns : List (List Str)), vs = [.str (glue (lns.map row))] ∧ (∀ l ∈ lns, l ≠ [] ∧ (∀ x ∈ l, WdOk x) ∧ l.length ≤ 1015) ∧ lns.length ≤ 100 ∧ (glue (lns.map row)).length ≤ 1000000 ∧
  ∀ (p : Addr) (as : List Addr) (H' : Hp), Same H H' → H p = none → (∀ a ∈ as, H a = none) → as.Nodup → H' p = some (.lst (as.map V.ref)) → Paired (fun a l => LnAt C H' a l 0) as lns → Q (.ref p) H'
theorem d_lines_of (T : TxtL K mg C) (DI_Line : MDef P w K mg base CX0 1 C "__init__" ["self", "number", "row"] [] (spLnInit C)) (A : At K mg "lines_of" s_lines_of ["text"]) : DefOk P w K mg base CX0 3 "lines_of" ["text"] (spLines C) := by
  have B := T.B
  refine A.ok sc_lines_of (fun vs H Q E h => ?_) (fun f cdv A outer s H vs Q E hr h => ?_)
  · obtain ⟨lns, rfl, _⟩ := h
    rfl
  obtain ⟨lns, rfl, hl, hn, hz, q⟩ := h
  refine ⟨_, pss_cons (ps_set (i := 1) sc_lines_of.nd rfl (Or.inl rfl) (pe_split (pv 0) pe_str))
  (pss_cons (ps_set (i := 2) sc_lines_of.nd rfl (Or.inl rfl) (pe_bm0 PySem.F.plainAttrs_list PySem.F.slot_list_pop PySem.F.type_list_pop mt_pop (pv 1)))
  (pss_cons (ps_if (pt_cmpR op_ne (pv 2) pe_str (nomark _))
      (pss_one (ps_never))
      (pss_nil))
  (pss_one (ps_ret (pe_lc (own := [("number", 3), ("row", 4)])  rfl sc_lines_of.nd (pi_enumS (by rfl) B.enumerate (pa_cons (pv 1) pa_nil) (pk_cons pe_int pk_nil)) (blkOk_by (own := [("number", 3), ("row", 4)]) (N := ["text", "rows", "last", "number", "row"]) (sc := defScope s_lines_of) (by decide +kernel)) (fun _ _ _ _ _ => pg_tupK (K := K) (n := 2) rfl (by rfl) (pgs_cons (pg_name (i := 3) sc_lines_of.nd rfl (Or.inl rfl)) (pgs_cons (pg_name (i := 4) sc_lines_of.nd rfl (Or.inl rfl)) (pgs_nil)))) (fun _ _ _ _ _ => pts_nil) (fun _ _ _ _ _ => (pe_mk DI_Line T.c_Line (hr.mono (by omega)) pass0 (pa_cons (pv 3) (pa_cons (pv 4) pa_nil)))))))))
    , ?_⟩
  have hsplit : Txt.split (glue (lns.map row)) nl = lns.map row ++ [Str.empty] := glue_split fun r hr => by
    obtain ⟨l, hl', rfl⟩ := List.mem_map.mp hr
    exact row_free (hl l hl').2.1
  refine ⟨_, rfl, ⟨_, rfl⟩, _, nl, rfl, rfl, by decide +kernel, Nat.le_trans (Nat.add_le_add_right hz 2) (by decide), fun rl hrl => ?_⟩
  have e0 : upd H rl (.lst ((Txt.split (glue (lns.map row)) nl).map V.str)) = upd H rl (.lst ((lns.map row).map V.str ++ [.str Str.empty])) := by
    rw [hsplit, List.map_append]
    rfl
  rw [e0]
  refine ⟨_, rfl, .inl ⟨rfl, _, SqL.of upd_same⟩, rl, _, .str Str.empty, rfl, rfl, upd_same, by rw [List.length_append, List.length_singleton, Nat.add_sub_cancel, List.getElem?_append_right (Nat.le_refl _), Nat.sub_self]; rfl, ?_⟩
  rw [upd_upd, List.dropLast_concat]
  refine ⟨_, rfl, rfl, _, rfl, iteF' (by decide +kernel) ?_⟩
  refine ⟨_, rfl, _, _, 1, rfl, rfl, SqL.of upd_same, by decide, by decide, fun D hD => ?_⟩
  have hrlD : rl ≠ D := fun z => by
    rw [← z, upd_same] at hD
    cases hD
  have hD0 : H D = none := by
    rw [upd_ne hrlD.symm] at hD
    exact hD
  have sS : Same H (upd H rl (.lst ((lns.map row).map V.str))) := same_new hrl _
  refine lc_it (walk_enumS (xs := (lns.map row).map V.str)) (fun i H' => ∃ as : List Addr, as.length = i ∧ H' D = some (.lst (as.map V.ref)) ∧ Same (upd H rl (.lst ((lns.map row).map V.str))) H' ∧ (∀ a ∈ as, H a = none) ∧ as.Nodup ∧ Paired (fun a l => LnAt C H' a l 0 ∧ l ≠ []) as (lns.take i))
    ⟨[], rfl, upd_same, same_new hD _, fun _ z => absurd z List.not_mem_nil, List.nodup_nil, .nil⟩ (fun i H1 _ ⟨as, _, _, z, _⟩ => z.seq (SqL.of upd_same)) (fun i x H1 H2 hi hI hy => ?_) (fun H1 hI => ?_)
  · obtain ⟨T', x2, rfl, hT', rfl, hx2⟩ := hy
    obtain ⟨as, ha, hDD, hs, hfr, hnd, hpr⟩ := hI
    have hi' : i < lns.length := by
      rw [List.length_map, List.length_map] at hi
      exact hi
    have ex2 : x2 = .str (row lns[i]) := by
      rw [List.getElem?_map, List.getElem?_map, List.getElem?_eq_getElem hi'] at hx2
      exact (Option.some.inj hx2).symm
    subst ex2
    obtain ⟨k1, k2, k3⟩ := hl _ (List.getElem_mem hi')
    have s12 := same_new hT' (.tup [.int (1 + (i : Int)), .str (row lns[i])])
    refine ⟨T', _, rfl, SqT.of upd_same, rfl, _, _, rfl, _, _, rfl, rfl, rfl, _, rfl, _, rfl, fun x dx hx hdx ne => ?_⟩
    refine ⟨x, dx, _, lns[i], rfl, upd_same, k1, k2, by omega, fun H3 s3 L3 => ⟨rfl, ?_⟩⟩
    have s13 : Same H1 H3 := s12.trans (same_mk hx hdx s3)
    have hxH : H x = none := (sS.trans (hs.trans s12)).free hx
    refine ⟨_, s13 _ _ hDD, by rw [List.length_map, ha]; exact small1000 (by omega), as ++ [x], by rw [List.length_append, ha, List.length_singleton], by rw [upd_same, List.map_append]; rfl, same_at hD (hs.trans s13) _, ?_, ?_, ?_⟩
    · intro a hma
      rcases List.mem_append.mp hma with hma | hma
      · exact hfr a hma
      · rw [List.mem_singleton.mp hma]; exact hxH
    · refine List.nodup_append.mpr ⟨hnd, List.pairwise_singleton _ _, fun a hma b hmb z => ?_⟩
      rw [List.mem_singleton.mp hmb] at z
      subst z
      obtain ⟨j, hj, ej⟩ := List.mem_iff_getElem.mp hma
      obtain ⟨l, _, hla⟩ := paired_at hpr (List.getElem?_eq_getElem hj)
      rw [ej] at hla
      obtain ⟨d1, d2, d3, d4, g1, _⟩ := hla.1.ex
      rw [(s12 _ _ g1)] at hx
      cases hx
    · have upL : ∀ {a : Addr} {l : List Str}, l ≠ [] → LnAt C H3 a l 0 → LnAt C (upd H3 D (.lst (as.map V.ref ++ [.ref x]))) a l 0 := fun {a l} hne h => by
        obtain ⟨d1, d2, d3, d4, g1, g2⟩ := h.ex
        have gD := s13 _ _ hDD
        refine ⟨⟨d1, d2, d3, d4, by rw [upd_ne (ne_of g1 gD (fun z => nomatch z))]; exact g1, ?_⟩, h.ok⟩
        have n2 : d3 ≠ D := fun z => by
          rw [z, gD] at g2
          injection g2 with g2
          injection g2 with g2
          cases l with
          | nil => exact hne rfl
          | cons b bs => cases as with
            | nil => cases g2
            | cons c cs => cases g2
        rw [upd_ne n2]
        exact g2
      rw [List.take_add_one, List.getElem?_eq_getElem hi']
      exact paired_snoc (Paired.mapP hpr fun a l h => ⟨upL h.2 (h.1.same s13), h.2⟩) ⟨upL k1 L3, k1⟩
  · obtain ⟨as, ha, hDD, hs, hfr, hnd, hpr⟩ := hI
    rw [List.length_map, List.length_map, List.take_length] at hpr
    exact q D as H1 (sS.trans hs) hD0 hfr hnd hDD (Paired.mapP hpr fun a l h => h.1)
end
end DP
namespace DP
open PySem PySem.Spec PyProof.Rows L2
abbrev s_names_of : Stmt := topS 29
theorem sc_names_of : FnScope ["things", "thing"] ["things"] (defScope s_names_of) := ⟨rfl, rfl, rfl, by decide +kernel, rfl, by decide +kernel, by decide +kernel⟩
abbrev s_read_light : Stmt := topS 31
theorem sc_read_light : FnScope ["line", "horizon", "light", "least", "first"] ["line", "horizon"] (defScope s_read_light) := ⟨rfl, rfl, rfl, by decide +kernel, rfl, by decide +kernel, by decide +kernel⟩
abbrev s_read_satellite : Stmt := topS 30
theorem sc_read_satellite : FnScope ["line", "horizon", "things", "name", "store", "battery", "level", "reserve", "charge", "settle", "light"] ["line", "horizon", "things"] (defScope s_read_satellite) := ⟨rfl, rfl, rfl, by decide +kernel, rfl, by decide +kernel, by decide +kernel⟩
abbrev s_read_station : Stmt := topS 32
theorem sc_read_station : FnScope ["line", "_", "things", "name", "antennas", "turn"] ["line", "_", "things"] (defScope s_read_station) := ⟨rfl, rfl, rfl, by decide +kernel, rfl, by decide +kernel, by decide +kernel⟩
abbrev s_read_recording : Stmt := topS 33
theorem sc_read_recording : FnScope ["line", "horizon", "things", "name", "satellite", "earliest", "latest", "length", "size", "energy", "worth", "rank", "deadline"] ["line", "horizon", "things"] (defScope s_read_recording) := ⟨rfl, rfl, rfl, by decide +kernel, rfl, by decide +kernel, by decide +kernel⟩
abbrev s_read_pass : Stmt := topS 34
theorem sc_read_pass : FnScope ["line", "horizon", "things", "name", "satellite", "station", "first", "end", "room", "energy", "fee"] ["line", "horizon", "things"] (defScope s_read_pass) := ⟨rfl, rfl, rfl, by decide +kernel, rfl, by decide +kernel, by decide +kernel⟩
abbrev s_most_things : Stmt := topS 39
theorem sc_most_things : FnScope ["sort", "most"] ["sort"] (defScope s_most_things) := ⟨rfl, rfl, rfl, by decide +kernel, rfl, by decide +kernel, by decide +kernel⟩
abbrev s_read_sort : Stmt := topS 38
theorem sc_read_sort : FnScope ["line", "ahead", "things", "word", "sort"] ["line", "ahead", "things"] (defScope s_read_sort) := ⟨rfl, rfl, rfl, by decide +kernel, rfl, by decide +kernel, by decide +kernel⟩
abbrev s_read_things : Stmt := topS 37
theorem sc_read_things : FnScope ["lines", "horizon", "things", "sort", "line", "reader"] ["lines", "horizon"] (defScope s_read_things) := ⟨rfl, rfl, rfl, by decide +kernel, rfl, by decide +kernel, by decide +kernel⟩
abbrev s_Satellite___init__ : Stmt := inClass (topS 24) 0
theorem sc_Satellite___init__ : FnScope ["self", "name", "store", "battery", "start_level", "reserve", "charge", "settle", "light"] ["self", "name", "store", "battery", "start_level", "reserve", "charge", "settle", "light"] (defScope s_Satellite___init__) := ⟨rfl, rfl, rfl, by decide +kernel, rfl, by decide +kernel, by decide +kernel⟩
abbrev s_Station___init__ : Stmt := inClass (topS 25) 0
theorem sc_Station___init__ : FnScope ["self", "name", "antennas", "turn"] ["self", "name", "antennas", "turn"] (defScope s_Station___init__) := ⟨rfl, rfl, rfl, by decide +kernel, rfl, by decide +kernel, by decide +kernel⟩
abbrev s_Recording___init__ : Stmt := inClass (topS 26) 0
theorem sc_Recording___init__ : FnScope ["self", "name", "satellite", "earliest", "latest", "length", "size", "energy", "worth", "rank", "deadline"] ["self", "name", "satellite", "earliest", "latest", "length", "size", "energy", "worth", "rank", "deadline"] (defScope s_Recording___init__) := ⟨rfl, rfl, rfl, by decide +kernel, rfl, by decide +kernel, by decide +kernel⟩
abbrev s_Pass___init__ : Stmt := inClass (topS 27) 0
theorem sc_Pass___init__ : FnScope ["self", "name", "satellite", "station", "span", "room", "energy", "fee"] ["self", "name", "satellite", "station", "span", "room", "energy", "fee"] (defScope s_Pass___init__) := ⟨rfl, rfl, rfl, by decide +kernel, rfl, by decide +kernel, by decide +kernel⟩
abbrev s_World___init__ : Stmt := inClass (topS 28) 6
theorem sc_World___init__ : FnScope ["self", "text", "horizon", "things", "satellites", "stations", "recordings", "passes"] ["self", "text", "horizon", "things"] (defScope s_World___init__) := ⟨rfl, rfl, rfl, by decide +kernel, rfl, by decide +kernel, by decide +kernel⟩
abbrev s_World_parse : Stmt := inClass (topS 28) 7
theorem sc_World_parse : FnScope ["text", "lines", "horizon"] ["text"] (defScope s_World_parse) := ⟨rfl, rfl, rfl, by decide +kernel, rfl, by decide +kernel, by decide +kernel⟩
theorem SameX.new {a L : Addr} {H H' : Hp} {o : HO} (hL : H L = none) (s : SameX a H H') : SameX a H (L2.upd H' L o) := fun b u n h => by
  rw [upd_ne (ne_of_none h hL)]
  exact s b u n h
theorem SameX.sqT {K : PySem.W.Frag} {H H' : Hp} {a t C dx : Addr} {fs : List (Str × V)} {xs : List V} (s : SameX a H H') (ha : H a = some (.ins C dx fs)) (h : SqT K H t xs) : SqT K H' t xs := by
  rcases h with (h | ⟨u, h⟩) | h
  · exact .inl (.inl (s _ _ (ne_of h ha (fun z => nomatch z)) h))
  · exact .inl (.inr ⟨u, s _ _ (ne_of h ha (fun z => nomatch z)) h⟩)
  · exact .inr h
theorem SameX.sqL {K : PySem.W.Frag} {H H' : Hp} {a t C dx : Addr} {fs : List (Str × V)} {xs : List V} (s : SameX a H H') (ha : H a = some (.ins C dx fs)) (h : SqL K H t xs) : SqL K H' t xs := by
  rcases h with (h | ⟨u, h⟩) | h
  · exact .inl (.inl (s _ _ (ne_of h ha (fun z => nomatch z)) h))
  · exact .inl (.inr ⟨u, s _ _ (ne_of h ha (fun z => nomatch z)) h⟩)
  · exact .inr h
theorem SameX.spans {K : PySem.W.Frag} {H H' : Hp} {a C dx : Addr} {fs : List (Str × V)} {xs : List V} {qs : List (Int × Int)} (s : SameX a H H') (ha : H a = some (.ins C dx fs)) (h : Spans K H xs qs) : Spans K H' xs qs :=
  Paired.mapP h fun _ _ ⟨t, h1, h2⟩ => ⟨t, h1, s.sqT ha h2⟩
/-- an object with a name -/
def Named (K : PySem.W.Frag) (H : Hp) (x : V) (nm : Str) : Prop := ∃ a C dx fs, x = .ref a ∧ H a = some (.ins C dx fs) ∧ Cls K C ∧ NoAttr K C "name" ∧ fs.lookup ("name" : Str) = some (.str nm)
theorem Named.same {K : PySem.W.Frag} {H H' : Hp} {x : V} {nm : Str} (h : Named K H x nm) (s : Same H H') : Named K H' x nm := by
  obtain ⟨a, C, dx, fs, h1, h2, h3⟩ := h
  exact ⟨a, C, dx, fs, h1, s _ _ h2, h3⟩
section
variable {P : Program} {w : World} {K : PySem.W.Frag} {mg : Str → Option Value} {base : Heap}
def spNames (K : PySem.W.Frag) : Sp := fun vs H Q _ => ∃ (l : Addr) (xs : List V) (ns : List Str), vs = [.ref l] ∧ SqL K H l xs ∧ Paired (Named K H) xs ns ∧ ns.length ≤ 100 ∧
  ∀ p H', Same H H' → H p = none → H' p = some (.lst (ns.map V.str)) → Q (.ref p) H'
theorem d_names_of (B : Bt mg) (A : At K mg "names_of" s_names_of ["things"]) : DefOk P w K mg base CX0 1 "names_of" ["things"] (spNames K) := by
  refine A.ok sc_names_of (fun vs H Q E h => ?_) (fun f cdv A outer s H vs Q E hr h => ?_)
  · obtain ⟨l, xs, ns, rfl, _⟩ := h
    rfl
  obtain ⟨l, xs, ns, rfl, hl, hp, hn, q⟩ := h
  have hlen := paired_len hp
  refine ⟨_, pss_one (ps_ret (pe_lc (own := [("thing", 1)])  rfl sc_names_of.nd (pi_list (pv 0)) (blkOk_by (own := [("thing", 1)]) (N := ["things", "thing"]) (sc := defScope s_names_of) (by decide +kernel)) (fun _ _ _ _ _ => pg_name (i := 1) sc_names_of.nd rfl (Or.inl rfl)) (fun _ _ _ _ _ => pts_nil) (fun _ _ _ _ _ => (pe_fldK (K := K) rfl (pv 1) rfl))))
    , ?_⟩
  refine ⟨_, rfl, l, rfl, ⟨_, hl⟩, fun D hD => ?_⟩
  refine lc_list (K := K) (a := l) (xs := xs) (fun i H' => Same H H' ∧ H' D = some (.lst ((ns.take i).map V.str))) ⟨same_new hD _, upd_same⟩ (fun i H' _ h => h.1.seq hl) (fun i x H1 hx hI => ?_) (fun H1 hI => ?_)
  · obtain ⟨hs, hDD⟩ := hI
    obtain ⟨nm, hnm, hx2⟩ := paired_at hp hx
    obtain ⟨a, C, dx, fs, rfl, h2, h3, h4, h5⟩ := hx2
    refine ⟨rfl, _, rfl, a, C, dx, fs, _, rfl, hs _ _ h2, h3, h4, h5, _, hDD, ?_, same_at hD hs _, ?_⟩
    · rw [List.length_map, List.length_take]
      exact small1000 (by omega)
    · rw [upd_same, List.take_add_one, hnm, List.map_append]
      rfl
  · obtain ⟨hs, hDD⟩ := hI
    rw [hlen, List.take_length] at hDD
    exact q D H1 hs hD hDD
end
def satF (s : SatD) (t : Addr) : List (Str × V) := [("name", .str s.name), ("store", .int s.store), ("battery", .int s.battery), ("start_level", .int s.level), ("reserve", .int s.reserve), ("charge", .int s.charge), ("settle", .int s.settle), ("light", .ref t)]
def staF (s : StaD) : List (Str × V) := [("name", .str s.name), ("antennas", .int s.antennas), ("turn", .int s.turn)]
def recF (r : RecD) : List (Str × V) := [("name", .str r.name), ("satellite", .int (r.sat : Int)), ("earliest", .int r.earliest), ("latest", .int r.latest), ("length", .int r.length), ("size", .int r.size), ("energy", .int r.energy), ("worth", .int r.worth), ("rank", .int r.rank), ("deadline", .int r.deadline)]
def pasF (p : PasD) (t : Addr) : List (Str × V) := [("name", .str p.name), ("satellite", .int (p.sat : Int)), ("station", .int (p.sta : Int)), ("span", .ref t), ("room", .int p.room), ("energy", .int p.energy), ("fee", .int p.fee)]
def SatAt (K : PySem.W.Frag) (C : Addr) (H : Hp) (x : V) (s : SatD) : Prop := ∃ a dx t ls, x = .ref a ∧ H a = some (.ins C dx (satF s t)) ∧ SqT K H t ls ∧ Spans K H ls s.light
def StaAt (C : Addr) (H : Hp) (x : V) (s : StaD) : Prop := ∃ a dx, x = .ref a ∧ H a = some (.ins C dx (staF s))
def RecAt (C : Addr) (H : Hp) (x : V) (r : RecD) : Prop := ∃ a dx, x = .ref a ∧ H a = some (.ins C dx (recF r))
def PasAt (K : PySem.W.Frag) (C : Addr) (H : Hp) (x : V) (p : PasD) : Prop := ∃ a dx t, x = .ref a ∧ H a = some (.ins C dx (pasF p t)) ∧ SqT K H t [.int p.first, .int p.fin]
/-- a line stays apart from the other objects: their fields are more or fewer -/
theorem SameX.ins {H H' : Hp} {a b C D dx dy : Addr} {fs gs : List (Str × V)} (s : SameX a H H') (ha : H a = some (.ins C dx fs)) (hb : H b = some (.ins D dy gs)) (n : gs.length ≠ fs.length) : H' b = some (.ins D dy gs) := s b _ (ins_ne hb ha n) hb
/-- what the text tells of the other classes -/
structure TxtW (K : PySem.W.Frag) (mg : Str → Option Value) (CL CS CT CR CP CW aS aR fS fT fR fP : Addr) : Prop where
  L : TxtL K mg CL
  c_Satellite : ClsAt K mg "Satellite" CS
  c_Station : ClsAt K mg "Station" CT
  c_Recording : ClsAt K mg "Recording" CR
  c_Pass : ClsAt K mg "Pass" CP
  c_World : ClsAt K mg "World" CW
  n_Satellite_name : NoAttr K CS "name"
  n_Satellite_store : NoAttr K CS "store"
  n_Satellite_battery : NoAttr K CS "battery"
  n_Satellite_start_level : NoAttr K CS "start_level"
  n_Satellite_reserve : NoAttr K CS "reserve"
  n_Satellite_charge : NoAttr K CS "charge"
  n_Satellite_settle : NoAttr K CS "settle"
  n_Satellite_light : NoAttr K CS "light"
  n_Station_name : NoAttr K CT "name"
  n_Station_antennas : NoAttr K CT "antennas"
  n_Station_turn : NoAttr K CT "turn"
  n_Recording_name : NoAttr K CR "name"
  n_Recording_satellite : NoAttr K CR "satellite"
  n_Recording_earliest : NoAttr K CR "earliest"
  n_Recording_latest : NoAttr K CR "latest"
  n_Recording_length : NoAttr K CR "length"
  n_Recording_size : NoAttr K CR "size"
  n_Recording_energy : NoAttr K CR "energy"
  n_Recording_worth : NoAttr K CR "worth"
  n_Recording_rank : NoAttr K CR "rank"
  n_Recording_deadline : NoAttr K CR "deadline"
  n_Pass_name : NoAttr K CP "name"
  n_Pass_satellite : NoAttr K CP "satellite"
  n_Pass_station : NoAttr K CP "station"
  n_Pass_span : NoAttr K CP "span"
  n_Pass_room : NoAttr K CP "room"
  n_Pass_energy : NoAttr K CP "energy"
  n_Pass_fee : NoAttr K CP "fee"
  n_World_text : NoAttr K CW "text"
  n_World_horizon : NoAttr K CW "horizon"
  n_World_satellites : NoAttr K CW "satellites"
  n_World_stations : NoAttr K CW "stations"
  n_World_recordings : NoAttr K CW "recordings"
  n_World_passes : NoAttr K CW "passes"
  g_SATELLITES : ∃ t, mg "SATELLITES" = some (.int 0 t)
  g_STATIONS : ∃ t, mg "STATIONS" = some (.int 1 t)
  g_RECORDINGS : ∃ t, mg "RECORDINGS" = some (.int 2 t)
  g_PASSES : ∃ t, mg "PASSES" = some (.int 3 t)
  g_MOST_UNITS : ∃ t, mg "MOST_UNITS" = some (.int 1000000 t)
  g_MOST_CHARGE : ∃ t, mg "MOST_CHARGE" = some (.int 1000 t)
  g_MOST_DELAY : ∃ t, mg "MOST_DELAY" = some (.int 60 t)
  g_MOST_ANTENNAS : ∃ t, mg "MOST_ANTENNAS" = some (.int 3 t)
  g_MOST_WORTH : ∃ t, mg "MOST_WORTH" = some (.int 1000 t)
  g_MOST_RANK : ∃ t, mg "MOST_RANK" = some (.int 3 t)
  g_MOST_FEE : ∃ t, mg "MOST_FEE" = some (.int 1000 t)
  g_SORTS : mg "SORTS" = some (.ref aS)
  t_SORTS : ∀ H, SqT K H aS (([("satellite" : Str), "station", "recording", "pass"]).map V.str)
  k_SORTS : ∃ o, K.lookup aS = some o ∧ o.cls = .type "tuple" ∧ o.dict = none
  g_READERS : mg "READERS" = some (.ref aR)
  t_READERS : ∀ H, SqT K H aR [.ref fS, .ref fT, .ref fR, .ref fP]
  r_satellite : mg "read_satellite" = some (.ref fS)
  r_station : mg "read_station" = some (.ref fT)
  r_recording : mg "read_recording" = some (.ref fR)
  r_pass : mg "read_pass" = some (.ref fP)
  rdW : ClX.CRead K CW (.type "type")
  v_MOST_HORIZON : ∃ t, ClX.CVal K CW (.type "type") "MOST_HORIZON" (.int 500) (.int 500 t)
  v_MOST_SATELLITES : ∃ t, ClX.CVal K CW (.type "type") "MOST_SATELLITES" (.int 3) (.int 3 t)
  v_MOST_STATIONS : ∃ t, ClX.CVal K CW (.type "type") "MOST_STATIONS" (.int 3) (.int 3 t)
  v_MOST_RECORDINGS : ∃ t, ClX.CVal K CW (.type "type") "MOST_RECORDINGS" (.int 10) (.int 10 t)
  v_MOST_PASSES : ∃ t, ClX.CVal K CW (.type "type") "MOST_PASSES" (.int 10) (.int 10 t)
  v_MOST_SHIFT : ∃ t, ClX.CVal K CW (.type "type") "MOST_SHIFT" (.int 20) (.int 20 t)
section
variable {P : Program} {w : World} {K : PySem.W.Frag} {mg : Str → Option Value} {base : Heap} {CL CS CT CR CP CW aS aR fS fT fR fP : Addr}
theorem TxtW.c_Line (T : TxtW K mg CL CS CT CR CP CW aS aR fS fT fR fP) : ClsAt K mg "Line" CL := T.L.c_Line
def spI_Satellite (C : Addr) : Sp := fun vs H Q _ => ∃ (x dx : Addr) (v0 v1 v2 v3 v4 v5 v6 v7 : V), vs = [.ref x, v0, v1, v2, v3, v4, v5, v6, v7] ∧ H x = some (.ins C dx []) ∧
  Q .non (upd H x (.ins C dx [("name", v0), ("store", v1), ("battery", v2), ("start_level", v3), ("reserve", v4), ("charge", v5), ("settle", v6), ("light", v7)]))
theorem dI_Satellite (T : TxtW K mg CL CS CT CR CP CW aS aR fS fT fR fP) (A : MAt K CS "__init__" "Satellite.__init__" s_Satellite___init__ ["self", "name", "store", "battery", "start_level", "reserve", "charge", "settle", "light"]) : MDef P w K mg base CX0 1 CS "__init__" ["self", "name", "store", "battery", "start_level", "reserve", "charge", "settle", "light"] [] (spI_Satellite CS) := by
  refine A.ok sc_Satellite___init__ (fun vs H Q E h => ?_) (fun f cdv A outer s H vs Q E hr h => ?_)
  · obtain ⟨x, dx, v0, v1, v2, v3, v4, v5, v6, v7, rfl, _⟩ := h
    rfl
  obtain ⟨x, dx, v0, v1, v2, v3, v4, v5, v6, v7, rfl, hx, q⟩ := h
  refine ⟨_, pss_cons (ps_fld (pv 0) (pv 1) rfl)
  (pss_cons (ps_fld (pv 0) (pv 2) rfl)
  (pss_cons (ps_fld (pv 0) (pv 3) rfl)
  (pss_cons (ps_fld (pv 0) (pv 4) rfl)
  (pss_cons (ps_fld (pv 0) (pv 5) rfl)
  (pss_cons (ps_fld (pv 0) (pv 6) rfl)
  (pss_cons (ps_fld (pv 0) (pv 7) rfl)
  (pss_one (ps_fld (pv 0) (pv 8) rfl)))))))), ?_⟩
  refine ⟨_, rfl, _, rfl, x, CS, dx, _, rfl, hx, T.c_Satellite.cl, T.n_Satellite_name, (by show 0 < 1000; decide), ?_⟩
  rw [put_nil]
  refine ⟨_, rfl, _, rfl, x, CS, dx, _, rfl, upd_same, T.c_Satellite.cl, T.n_Satellite_store, (by show 1 < 1000; decide), ?_⟩
  rw [upd_upd]
  rw [put_miss (by decide +kernel)]
  rw [put_nil]
  refine ⟨_, rfl, _, rfl, x, CS, dx, _, rfl, upd_same, T.c_Satellite.cl, T.n_Satellite_battery, (by show 2 < 1000; decide), ?_⟩
  rw [upd_upd]
  rw [put_miss (by decide +kernel)]
  rw [put_miss (by decide +kernel)]
  rw [put_nil]
  refine ⟨_, rfl, _, rfl, x, CS, dx, _, rfl, upd_same, T.c_Satellite.cl, T.n_Satellite_start_level, (by show 3 < 1000; decide), ?_⟩
  rw [upd_upd]
  rw [put_miss (by decide +kernel)]
  rw [put_miss (by decide +kernel)]
  rw [put_miss (by decide +kernel)]
  rw [put_nil]
  refine ⟨_, rfl, _, rfl, x, CS, dx, _, rfl, upd_same, T.c_Satellite.cl, T.n_Satellite_reserve, (by show 4 < 1000; decide), ?_⟩
  rw [upd_upd]
  rw [put_miss (by decide +kernel)]
  rw [put_miss (by decide +kernel)]
  rw [put_miss (by decide +kernel)]
  rw [put_miss (by decide +kernel)]
  rw [put_nil]
  refine ⟨_, rfl, _, rfl, x, CS, dx, _, rfl, upd_same, T.c_Satellite.cl, T.n_Satellite_charge, (by show 5 < 1000; decide), ?_⟩
  rw [upd_upd]
  rw [put_miss (by decide +kernel)]
  rw [put_miss (by decide +kernel)]
  rw [put_miss (by decide +kernel)]
  rw [put_miss (by decide +kernel)]
  rw [put_miss (by decide +kernel)]
  rw [put_nil]
  refine ⟨_, rfl, _, rfl, x, CS, dx, _, rfl, upd_same, T.c_Satellite.cl, T.n_Satellite_settle, (by show 6 < 1000; decide), ?_⟩
  rw [upd_upd]
  rw [put_miss (by decide +kernel)]
  rw [put_miss (by decide +kernel)]
  rw [put_miss (by decide +kernel)]
  rw [put_miss (by decide +kernel)]
  rw [put_miss (by decide +kernel)]
  rw [put_miss (by decide +kernel)]
  rw [put_nil]
  refine ⟨_, rfl, _, rfl, x, CS, dx, _, rfl, upd_same, T.c_Satellite.cl, T.n_Satellite_light, (by show 7 < 1000; decide), ?_⟩
  rw [upd_upd]
  rw [put_miss (by decide +kernel)]
  rw [put_miss (by decide +kernel)]
  rw [put_miss (by decide +kernel)]
  rw [put_miss (by decide +kernel)]
  rw [put_miss (by decide +kernel)]
  rw [put_miss (by decide +kernel)]
  rw [put_miss (by decide +kernel)]
  rw [put_nil]
  exact q
def spI_Station (C : Addr) : Sp := fun vs H Q _ => ∃ (x dx : Addr) (v0 v1 v2 : V), vs = [.ref x, v0, v1, v2] ∧ H x = some (.ins C dx []) ∧
  Q .non (upd H x (.ins C dx [("name", v0), ("antennas", v1), ("turn", v2)]))
theorem dI_Station (T : TxtW K mg CL CS CT CR CP CW aS aR fS fT fR fP) (A : MAt K CT "__init__" "Station.__init__" s_Station___init__ ["self", "name", "antennas", "turn"]) : MDef P w K mg base CX0 1 CT "__init__" ["self", "name", "antennas", "turn"] [] (spI_Station CT) := by
  refine A.ok sc_Station___init__ (fun vs H Q E h => ?_) (fun f cdv A outer s H vs Q E hr h => ?_)
  · obtain ⟨x, dx, v0, v1, v2, rfl, _⟩ := h
    rfl
  obtain ⟨x, dx, v0, v1, v2, rfl, hx, q⟩ := h
  refine ⟨_, pss_cons (ps_fld (pv 0) (pv 1) rfl)
  (pss_cons (ps_fld (pv 0) (pv 2) rfl)
  (pss_one (ps_fld (pv 0) (pv 3) rfl))), ?_⟩
  refine ⟨_, rfl, _, rfl, x, CT, dx, _, rfl, hx, T.c_Station.cl, T.n_Station_name, (by show 0 < 1000; decide), ?_⟩
  rw [put_nil]
  refine ⟨_, rfl, _, rfl, x, CT, dx, _, rfl, upd_same, T.c_Station.cl, T.n_Station_antennas, (by show 1 < 1000; decide), ?_⟩
  rw [upd_upd]
  rw [put_miss (by decide +kernel)]
  rw [put_nil]
  refine ⟨_, rfl, _, rfl, x, CT, dx, _, rfl, upd_same, T.c_Station.cl, T.n_Station_turn, (by show 2 < 1000; decide), ?_⟩
  rw [upd_upd]
  rw [put_miss (by decide +kernel)]
  rw [put_miss (by decide +kernel)]
  rw [put_nil]
  exact q
def spI_Recording (C : Addr) : Sp := fun vs H Q _ => ∃ (x dx : Addr) (v0 v1 v2 v3 v4 v5 v6 v7 v8 v9 : V), vs = [.ref x, v0, v1, v2, v3, v4, v5, v6, v7, v8, v9] ∧ H x = some (.ins C dx []) ∧
  Q .non (upd H x (.ins C dx [("name", v0), ("satellite", v1), ("earliest", v2), ("latest", v3), ("length", v4), ("size", v5), ("energy", v6), ("worth", v7), ("rank", v8), ("deadline", v9)]))
theorem dI_Recording (T : TxtW K mg CL CS CT CR CP CW aS aR fS fT fR fP) (A : MAt K CR "__init__" "Recording.__init__" s_Recording___init__ ["self", "name", "satellite", "earliest", "latest", "length", "size", "energy", "worth", "rank", "deadline"]) : MDef P w K mg base CX0 1 CR "__init__" ["self", "name", "satellite", "earliest", "latest", "length", "size", "energy", "worth", "rank", "deadline"] [] (spI_Recording CR) := by
  refine A.ok sc_Recording___init__ (fun vs H Q E h => ?_) (fun f cdv A outer s H vs Q E hr h => ?_)
  · obtain ⟨x, dx, v0, v1, v2, v3, v4, v5, v6, v7, v8, v9, rfl, _⟩ := h
    rfl
  obtain ⟨x, dx, v0, v1, v2, v3, v4, v5, v6, v7, v8, v9, rfl, hx, q⟩ := h
  refine ⟨_, pss_cons (ps_fld (pv 0) (pv 1) rfl)
  (pss_cons (ps_fld (pv 0) (pv 2) rfl)
  (pss_cons (ps_fld (pv 0) (pv 3) rfl)
  (pss_cons (ps_fld (pv 0) (pv 4) rfl)
  (pss_cons (ps_fld (pv 0) (pv 5) rfl)
  (pss_cons (ps_fld (pv 0) (pv 6) rfl)
  (pss_cons (ps_fld (pv 0) (pv 7) rfl)
  (pss_cons (ps_fld (pv 0) (pv 8) rfl)
  (pss_cons (ps_fld (pv 0) (pv 9) rfl)
  (pss_one (ps_fld (pv 0) (pv 10) rfl)))))))))), ?_⟩
  refine ⟨_, rfl, _, rfl, x, CR, dx, _, rfl, hx, T.c_Recording.cl, T.n_Recording_name, (by show 0 < 1000; decide), ?_⟩
  rw [put_nil]
  refine ⟨_, rfl, _, rfl, x, CR, dx, _, rfl, upd_same, T.c_Recording.cl, T.n_Recording_satellite, (by show 1 < 1000; decide), ?_⟩
  rw [upd_upd]
  rw [put_miss (by decide +kernel)]
  rw [put_nil]
  refine ⟨_, rfl, _, rfl, x, CR, dx, _, rfl, upd_same, T.c_Recording.cl, T.n_Recording_earliest, (by show 2 < 1000; decide), ?_⟩
  rw [upd_upd]
  rw [put_miss (by decide +kernel)]
  rw [put_miss (by decide +kernel)]
  rw [put_nil]
  refine ⟨_, rfl, _, rfl, x, CR, dx, _, rfl, upd_same, T.c_Recording.cl, T.n_Recording_latest, (by show 3 < 1000; decide), ?_⟩
  rw [upd_upd]
  rw [put_miss (by decide +kernel)]
  rw [put_miss (by decide +kernel)]
  rw [put_miss (by decide +kernel)]
  rw [put_nil]
  refine ⟨_, rfl, _, rfl, x, CR, dx, _, rfl, upd_same, T.c_Recording.cl, T.n_Recording_length, (by show 4 < 1000; decide), ?_⟩
  rw [upd_upd]
  rw [put_miss (by decide +kernel)]
  rw [put_miss (by decide +kernel)]
  rw [put_miss (by decide +kernel)]
  rw [put_miss (by decide +kernel)]
  rw [put_nil]
  refine ⟨_, rfl, _, rfl, x, CR, dx, _, rfl, upd_same, T.c_Recording.cl, T.n_Recording_size, (by show 5 < 1000; decide), ?_⟩
  rw [upd_upd]
  rw [put_miss (by decide +kernel)]
  rw [put_miss (by decide +kernel)]
  rw [put_miss (by decide +kernel)]
  rw [put_miss (by decide +kernel)]
  rw [put_miss (by decide +kernel)]
  rw [put_nil]
  refine ⟨_, rfl, _, rfl, x, CR, dx, _, rfl, upd_same, T.c_Recording.cl, T.n_Recording_energy, (by show 6 < 1000; decide), ?_⟩
  rw [upd_upd]
  rw [put_miss (by decide +kernel)]
  rw [put_miss (by decide +kernel)]
  rw [put_miss (by decide +kernel)]
  rw [put_miss (by decide +kernel)]
  rw [put_miss (by decide +kernel)]
  rw [put_miss (by decide +kernel)]
  rw [put_nil]
  refine ⟨_, rfl, _, rfl, x, CR, dx, _, rfl, upd_same, T.c_Recording.cl, T.n_Recording_worth, (by show 7 < 1000; decide), ?_⟩
  rw [upd_upd]
  rw [put_miss (by decide +kernel)]
  rw [put_miss (by decide +kernel)]
  rw [put_miss (by decide +kernel)]
  rw [put_miss (by decide +kernel)]
  rw [put_miss (by decide +kernel)]
  rw [put_miss (by decide +kernel)]
  rw [put_miss (by decide +kernel)]
  rw [put_nil]
  refine ⟨_, rfl, _, rfl, x, CR, dx, _, rfl, upd_same, T.c_Recording.cl, T.n_Recording_rank, (by show 8 < 1000; decide), ?_⟩
  rw [upd_upd]
  rw [put_miss (by decide +kernel)]
  rw [put_miss (by decide +kernel)]
  rw [put_miss (by decide +kernel)]
  rw [put_miss (by decide +kernel)]
  rw [put_miss (by decide +kernel)]
  rw [put_miss (by decide +kernel)]
  rw [put_miss (by decide +kernel)]
  rw [put_miss (by decide +kernel)]
  rw [put_nil]
  refine ⟨_, rfl, _, rfl, x, CR, dx, _, rfl, upd_same, T.c_Recording.cl, T.n_Recording_deadline, (by show 9 < 1000; decide), ?_⟩
  rw [upd_upd]
  rw [put_miss (by decide +kernel)]
  rw [put_miss (by decide +kernel)]
  rw [put_miss (by decide +kernel)]
  rw [put_miss (by decide +kernel)]
  rw [put_miss (by decide +kernel)]
  rw [put_miss (by decide +kernel)]
  rw [put_miss (by decide +kernel)]
  rw [put_miss (by decide +kernel)]
  rw [put_miss (by decide +kernel)]
  rw [put_nil]
  exact q
def spI_Pass (C : Addr) : Sp := fun vs H Q _ => ∃ (x dx : Addr) (v0 v1 v2 v3 v4 v5 v6 : V), vs = [.ref x, v0, v1, v2, v3, v4, v5, v6] ∧ H x = some (.ins C dx []) ∧
  Q .non (upd H x (.ins C dx [("name", v0), ("satellite", v1), ("station", v2), ("span", v3), ("room", v4), ("energy", v5), ("fee", v6)]))
theorem dI_Pass (T : TxtW K mg CL CS CT CR CP CW aS aR fS fT fR fP) (A : MAt K CP "__init__" "Pass.__init__" s_Pass___init__ ["self", "name", "satellite", "station", "span", "room", "energy", "fee"]) : MDef P w K mg base CX0 1 CP "__init__" ["self", "name", "satellite", "station", "span", "room", "energy", "fee"] [] (spI_Pass CP) := by
  refine A.ok sc_Pass___init__ (fun vs H Q E h => ?_) (fun f cdv A outer s H vs Q E hr h => ?_)
  · obtain ⟨x, dx, v0, v1, v2, v3, v4, v5, v6, rfl, _⟩ := h
    rfl
  obtain ⟨x, dx, v0, v1, v2, v3, v4, v5, v6, rfl, hx, q⟩ := h
  refine ⟨_, pss_cons (ps_fld (pv 0) (pv 1) rfl)
  (pss_cons (ps_fld (pv 0) (pv 2) rfl)
  (pss_cons (ps_fld (pv 0) (pv 3) rfl)
  (pss_cons (ps_fld (pv 0) (pv 4) rfl)
  (pss_cons (ps_fld (pv 0) (pv 5) rfl)
  (pss_cons (ps_fld (pv 0) (pv 6) rfl)
  (pss_one (ps_fld (pv 0) (pv 7) rfl))))))), ?_⟩
  refine ⟨_, rfl, _, rfl, x, CP, dx, _, rfl, hx, T.c_Pass.cl, T.n_Pass_name, (by show 0 < 1000; decide), ?_⟩
  rw [put_nil]
  refine ⟨_, rfl, _, rfl, x, CP, dx, _, rfl, upd_same, T.c_Pass.cl, T.n_Pass_satellite, (by show 1 < 1000; decide), ?_⟩
  rw [upd_upd]
  rw [put_miss (by decide +kernel)]
  rw [put_nil]
  refine ⟨_, rfl, _, rfl, x, CP, dx, _, rfl, upd_same, T.c_Pass.cl, T.n_Pass_station, (by show 2 < 1000; decide), ?_⟩
  rw [upd_upd]
  rw [put_miss (by decide +kernel)]
  rw [put_miss (by decide +kernel)]
  rw [put_nil]
  refine ⟨_, rfl, _, rfl, x, CP, dx, _, rfl, upd_same, T.c_Pass.cl, T.n_Pass_span, (by show 3 < 1000; decide), ?_⟩
  rw [upd_upd]
  rw [put_miss (by decide +kernel)]
  rw [put_miss (by decide +kernel)]
  rw [put_miss (by decide +kernel)]
  rw [put_nil]
  refine ⟨_, rfl, _, rfl, x, CP, dx, _, rfl, upd_same, T.c_Pass.cl, T.n_Pass_room, (by show 4 < 1000; decide), ?_⟩
  rw [upd_upd]
  rw [put_miss (by decide +kernel)]
  rw [put_miss (by decide +kernel)]
  rw [put_miss (by decide +kernel)]
  rw [put_miss (by decide +kernel)]
  rw [put_nil]
  refine ⟨_, rfl, _, rfl, x, CP, dx, _, rfl, upd_same, T.c_Pass.cl, T.n_Pass_energy, (by show 5 < 1000; decide), ?_⟩
  rw [upd_upd]
  rw [put_miss (by decide +kernel)]
  rw [put_miss (by decide +kernel)]
  rw [put_miss (by decide +kernel)]
  rw [put_miss (by decide +kernel)]
  rw [put_miss (by decide +kernel)]
  rw [put_nil]
  refine ⟨_, rfl, _, rfl, x, CP, dx, _, rfl, upd_same, T.c_Pass.cl, T.n_Pass_fee, (by show 6 < 1000; decide), ?_⟩
  rw [upd_upd]
  rw [put_miss (by decide +kernel)]
  rw [put_miss (by decide +kernel)]
  rw [put_miss (by decide +kernel)]
  rw [put_miss (by decide +kernel)]
  rw [put_miss (by decide +kernel)]
  rw [put_miss (by decide +kernel)]
  rw [put_nil]
  exact q
def spLight (K : PySem.W.Frag) (CL : Addr) : Sp := fun vs H Q _ => ∃ (a : Addr) (ws : List Str) (r : Nat) (h : Int) (l : List (Int × Int)), vs = [.ref a, .int h] ∧ LnAt CL H a ws r ∧ r ≤ ws.length ∧ ws.drop r = lightW l ∧ LightOk 0 h l ∧ h ≤ 500 ∧ 0 ≤ h ∧
  ∀ t ls H', SameX a H H' → LnAt CL H' a ws ws.length → H' t = some (.tup ls) → Spans K H' ls l → Q (.ref t) H'
theorem drop_head {ws : List Str} {r : Nat} {u : Str} {t : List Str} (h : ws.drop r = u :: t) : ws[r]? = some u ∧ ws.drop (r + 1) = t := by
  have h1 : (ws.drop r)[0]? = some u := by rw [h]; rfl
  rw [List.getElem?_drop, Nat.add_zero] at h1
  refine ⟨h1, ?_⟩
  have h2 : (ws.drop r).drop 1 = t := by rw [h]; rfl
  rw [List.drop_drop] at h2
  exact h2
theorem drop_nil {ws : List Str} {r : Nat} (h : ws.drop r = []) : ws.length ≤ r := List.drop_eq_nil_iff.mp h
theorem d_read_light (T : TxtW K mg CL CS CT CR CP CW aS aR fS fT fR fP) (D_Line_has_more : MDef P w K mg base CX0 1 CL "has_more" ["self"] [] (spHasMore CL)) (D_Line_read_number : MDef P w K mg base CX0 3 CL "read_number" ["self", "least", "most"] [] (spNumber CL))
    (A : At K mg "read_light" s_read_light ["line", "horizon"]) : DefOk P w K mg base CX0 4 "read_light" ["line", "horizon"] (spLight K CL) := by
  have TW := T
  have T := T.L
  have B := T.B
  refine A.ok sc_read_light (fun vs H Q E h => ?_) (fun f cdv A outer s H vs Q E hr h => ?_)
  · obtain ⟨a, ws, r, h, l, rfl, _⟩ := h
    rfl
  obtain ⟨a, ws, r, h, l, rfl, hL, hrl, hd, hok, hh, hh0, q⟩ := h
  refine ⟨_, pss_cons (ps_set (i := 2) sc_read_light.nd rfl (Or.inl rfl) (pe_lst pa_nil))
  (pss_cons (ps_set (i := 3) sc_read_light.nd rfl (Or.inl rfl) pe_int)
  (pss_cons (ps_while PassesOwn.never (pt_val (pe_m0 D_Line_has_more T.c_Line.cl (hr.mono (by omega)) pass0 (pv 0)))
      (pss_cons (ps_set (i := 4) sc_read_light.nd rfl (Or.inl rfl) (pe_m D_Line_read_number T.c_Line.cl (hr.mono (by omega)) pass0 (pv 0) (pa_cons (pv 3) (pa_cons (pe_op op_sub (pv 1) pe_int) pa_nil))))
      (pss_cons (ps_set (i := 3) sc_read_light.nd rfl (Or.inl rfl) (pe_m D_Line_read_number T.c_Line.cl (hr.mono (by omega)) pass0 (pv 0) (pa_cons (pe_op op_add (pv 4) pe_int) (pa_cons (pv 1) pa_nil))))
      (pss_one (ps_expr (pe_bm PySem.F.plainAttrs_list PySem.F.slot_list_append PySem.F.type_list_append mt_append (pv 2) (pa_cons (pe_tup (pa_cons (pv 4) (pa_cons (pv 3) pa_nil))) pa_nil)))))))
  (pss_one (ps_ret (pe_callTy (call_tuple_of) (by rfl) B.tuple (by decide +kernel) (pa_cons (pv 2) pa_nil))))))
    , ?_⟩
  have no : ∀ {H' : Hp} {k : Nat}, LnAt CL H' a ws k → ∀ {m : Str}, (m == ("number" : Str)) = false → (m == ("words" : Str)) = false → (m == ("read" : Str)) = false → (m == ("column" : Str)) = false → ∃ dx fs, H' a = some (.ins CL dx fs) ∧ fs.lookup m = none := fun {H' k} hx {m} z1 z2 z3 z4 => by
    obtain ⟨dx, n, wl, c, h1, h2⟩ := hx.ex
    exact ⟨dx, _, h1, lnF_no z1 z2 z3 z4⟩
  refine ⟨Nat.zero_le _, fun L hLn => ?_⟩
  have eaL : a ≠ L := by
    obtain ⟨dx, n, wl, c, h1, h2⟩ := hL.ex
    exact ne_of_none h1 hLn
  refine ⟨fun n σ H' => ∃ (l1 l2 : List (Int × Int)) (ls : List V) (k : Nat) (le : Int) (y4 : Option V), n = l2.length ∧ l = l1 ++ l2 ∧ ws.drop k = lightW l2 ∧ k ≤ ws.length ∧ LightOk le h l2 ∧ 0 ≤ le ∧ l1.length ≤ 500 ∧ (l1.length : Int) ≤ le ∧
    σ = [some (.ref a), some (.int h), some (.ref L), some (.int le), y4] ∧ H' L = some (.lst ls) ∧ Spans K H' ls l1 ∧ LnAt CL H' a ws k ∧ SameX a H H', ⟨_, [], l, [], r, 0, none, rfl, rfl, hd, hrl, hok, Int.le_refl 0, Nat.zero_le _, Int.le_refl 0, rfl, upd_same, .nil, hL.same (same_new hLn _), SameX.of (same_new hLn _)⟩, fun n σ H' hI => ?_⟩
  obtain ⟨l1, l2, ls, k, le, y4, rfl, rfl, hdk, hk, hok2, hle, h500, hl1, rfl, hLL, hsp, hLk, hsx⟩ := hI
  obtain ⟨dx, fs, g1, g2⟩ := no hLk (m := "has_more") (by decide +kernel) (by decide +kernel) (by decide +kernel) (by decide +kernel)
  refine ⟨_, rfl, a, dx, fs, rfl, g1, g2, a, ws, k, rfl, hLk, _, rfl, ?_⟩
  cases l2 with
  | nil =>
    have hk2 := drop_nil hdk
    rw [decide_eq_false (by omega)]
    refine ⟨_, rfl, L, _, rfl, .inl ⟨SqL.of hLL, fun t ht => ?_⟩⟩
    rw [List.append_nil] at q
    refine q t ls _ (SameX.trans hsx (SameX.of (same_new ht _))) ?_ upd_same (hsp.same (same_new ht _))
    rw [show ws.length = k by omega]
    exact hLk.same (same_new ht _)
  | cons sp l2 =>
    obtain ⟨o1, o2, o3, o4⟩ := hok2
    obtain ⟨u1, hd1⟩ := drop_head (show ws.drop k = num sp.1 :: num sp.2 :: lightW l2 from hdk)
    obtain ⟨u2, hd2⟩ := drop_head hd1
    have k1 : k < ws.length := (List.getElem?_eq_some_iff.mp u1).1
    have k2 : k + 1 < ws.length := (List.getElem?_eq_some_iff.mp u2).1
    rw [decide_eq_true k1]
    refine ⟨fun σ' H'' => ∃ m, m < (sp :: l2).length ∧ ∃ (l1' l2' : List (Int × Int)) (ls : List V) (k : Nat) (le : Int) (y4 : Option V), m = l2'.length ∧ l1 ++ sp :: l2 = l1' ++ l2' ∧ ws.drop k = lightW l2' ∧ k ≤ ws.length ∧ LightOk le h l2' ∧ 0 ≤ le ∧ l1'.length ≤ 500 ∧ (l1'.length : Int) ≤ le ∧
      σ' = [some (.ref a), some (.int h), some (.ref L), some (.int le), y4] ∧ H'' L = some (.lst ls) ∧ Spans K H'' ls l1' ∧ LnAt CL H'' a ws k ∧ SameX a H H'', fun σ' H'' z => z, ?_⟩
    obtain ⟨dx, fs, g1, g2⟩ := no hLk (m := "read_number") (by decide +kernel) (by decide +kernel) (by decide +kernel) (by decide +kernel)
    refine ⟨_, rfl, a, dx, fs, rfl, g1, g2, _, rfl, _, rfl, _, _, rfl, rfl, a, ws, k, le, h - 1, sp.1, rfl, hLk, u1, by omega, by omega, o1, by omega, fun H1 s1 L1 => ?_⟩
    obtain ⟨dx1, fs1, g1', g2'⟩ := no L1 (m := "read_number") (by decide +kernel) (by decide +kernel) (by decide +kernel) (by decide +kernel)
    refine ⟨_, rfl, a, dx1, fs1, rfl, g1', g2', _, rfl, _, _, rfl, rfl, _, rfl, a, ws, k + 1, sp.1 + 1, h, sp.2, rfl, L1, u2, by omega, by omega, o2, o3, fun H2 s2 L2 => ?_⟩
    obtain ⟨dx2, n2, wl2, c2, g12, _⟩ := L2.ex
    have hL2 : H2 L = some (.lst ls) := s2 _ _ eaL.symm (s1 _ _ eaL.symm hLL)
    have hsp2 := s2.spans g1' (s1.spans g1 hsp)
    refine ⟨_, rfl, .inl ⟨rfl, _, SqL.of hL2⟩, _, rfl, _, rfl, (by show 2 ≤ sizeLine; decide), fun t ht => ?_⟩
    have eLt : L ≠ t := ne_of_none hL2 ht
    have hLt : (upd H2 t (.tup [.int sp.1, .int sp.2])) L = some (.lst ls) := by rw [upd_ne eLt]; exact hL2
    have hlsl := paired_len hsp
    refine ⟨L, ls, .ref t, rfl, rfl, hLt, by rw [hlsl]; exact small1000 (by omega), ?_⟩
    refine ⟨l2.length, by rw [List.length_cons]; omega, l1 ++ [sp], l2, ls ++ [.ref t], k + 2, sp.2, _, rfl, by rw [List.append_assoc]; rfl, hd2, by omega, o4, by omega, by rw [List.length_append, List.length_singleton]; omega, by rw [List.length_append, List.length_singleton]; omega, rfl, upd_same, ?_, ?_, ?_⟩
    · exact Spans.upd (paired_snoc (hsp2.same (same_new ht _)) ⟨t, rfl, SqT.of upd_same⟩) hLt
    · have L2t := L2.same (same_new ht (.tup [.int sp.1, .int sp.2]))
      obtain ⟨dx3, n3, wl3, c3, z1, z2⟩ := L2t.ex
      refine ⟨⟨dx3, n3, wl3, c3, by rw [upd_ne eaL]; exact z1, ?_⟩, L2t.ok⟩
      rw [upd_ne]
      · exact z2
      · intro z
        rw [z, hLt] at z2
        have e : ls = ws.map V.str := HO.lst.inj (Option.some.inj z2)
        cases ws with
        | nil => exact absurd k1 (Nat.not_lt_zero _)
        | cons w wr =>
          rw [e] at hsp
          cases hsp with
          | cons y _ =>
            obtain ⟨_, y1, _⟩ := y
            cases y1
    · exact SameX.new hLn (((hsx.trans s1).trans s2).trans (SameX.of (same_new ht _)))
/-- the names of a sort's things -/
def NamesAt (K : PySem.W.Frag) (H : Hp) (th : Addr) (i : Nat) (ns : List Str) : Prop := ∃ (ls : List Addr) (l : Addr) (xs : List V), SqT K H th (ls.map V.ref) ∧ ls[i]? = some l ∧ SqL K H l xs ∧ Paired (Named K H) xs ns ∧ ns.length ≤ 100
theorem NamesAt.same {K : PySem.W.Frag} {H H' : Hp} {th : Addr} {i : Nat} {ns : List Str} (h : NamesAt K H th i ns) (s : Same H H') : NamesAt K H' th i ns := by
  obtain ⟨ls, l, xs, h1, h2, h3, h4, h5⟩ := h
  exact ⟨ls, l, xs, Same.tup s h1, h2, s.seq h3, Paired.mapP h4 fun _ _ z => z.same s, h5⟩
/-- a line is none of the named objects: it has no name -/
theorem SameX.named {K : PySem.W.Frag} {H H' : Hp} {a C dx : Addr} {fs : List (Str × V)} {x : V} {nm : Str} (s : SameX a H H') (ha : H a = some (.ins C dx fs)) (hn : fs.lookup ("name" : Str) = none) (h : Named K H x nm) : Named K H' x nm := by
  obtain ⟨b, D, dy, gs, h1, h2, h3, h4, h5⟩ := h
  refine ⟨b, D, dy, gs, h1, s _ _ (fun z => ?_) h2, h3, h4, h5⟩
  rw [z, ha] at h2
  injection h2 with h2
  injection h2 with z1 z2 z3
  rw [← z3, hn] at h5
  cases h5
theorem NamesAt.sameX {K : PySem.W.Frag} {CL : Addr} {H H' : Hp} {a : Addr} {ws : List Str} {r : Nat} {th : Addr} {i : Nat} {ns : List Str} (h : NamesAt K H th i ns) (hL : LnAt CL H a ws r) (s : SameX a H H') : NamesAt K H' th i ns := by
  obtain ⟨ls, l, xs, h1, h2, h3, h4, h5⟩ := h
  obtain ⟨dx, n, wl, c, g1, g2⟩ := hL.ex
  exact ⟨ls, l, xs, s.sqT g1 h1, h2, s.sqL g1 h3, Paired.mapP h4 fun _ _ z => s.named g1 (lnF_no (by decide +kernel) (by decide +kernel) (by decide +kernel) (by decide +kernel)) z, h5⟩
theorem le_min2 {n i j : Int} (h1 : n ≤ i) (h2 : n ≤ j) : n ≤ (if j < i then j else i) := by split <;> assumption
theorem LnAt.no {C : Addr} {H : Hp} {a : Addr} {ws : List Str} {r : Nat} (h : LnAt C H a ws r) {m : Str} (z1 : (m == ("number" : Str)) = false) (z2 : (m == ("words" : Str)) = false) (z3 : (m == ("read" : Str)) = false) (z4 : (m == ("column" : Str)) = false) :
    ∃ dx fs, H a = some (.ins C dx fs) ∧ fs.lookup m = none := by
  obtain ⟨dx, n, wl, c, h1, h2⟩ := h.ex
  exact ⟨dx, _, h1, lnF_no z1 z2 z3 z4⟩
theorem SameX.free {a x : Addr} {H H' : Hp} {o : HO} (s : SameX a H H') (ha : H' a = some o) (h : H' x = none) : H x = none := by
  cases q : H x with
  | none => rfl
  | some u =>
    by_cases e : x = a
    · rw [e, ha] at h; cases h
    · rw [s x u e q] at h; cases h
theorem LnAt.there {C : Addr} {H : Hp} {a : Addr} {ws : List Str} {r : Nat} (h : LnAt C H a ws r) : ∃ o, H a = some o := by
  obtain ⟨dx, n, wl, c, h1, h2⟩ := h.ex
  exact ⟨_, h1⟩
theorem same_made {H : Hp} {x dx : Addr} {o u v : HO} (hx : H x = none) (hd : H dx = none) : Same H (upd (upd (upd H dx o) x u) x v) := fun b z e => by
  have n1 : b ≠ x := ne_of_none e hx
  rw [upd_ne n1, upd_ne n1, upd_ne (ne_of_none e hd)]
  exact e
def spRdSat (K : PySem.W.Frag) (CL CS : Addr) : Sp := fun vs H Q _ => ∃ (a : Addr) (h : Int) (th : Addr) (s : SatD) (ns : List Str), vs = [.ref a, .int h, .ref th] ∧ LnAt CL H a (wSat s) 1 ∧ NamesAt K H th 0 ns ∧ s.name ∉ ns ∧ SatOk h s ∧ 1 ≤ h ∧ h ≤ 500 ∧
  ∀ b H', H b = none → SameX a H H' → LnAt CL H' a (wSat s) (wSat s).length → SatAt K CS H' (.ref b) s → Q (.ref b) H'
theorem d_read_satellite (T : TxtW K mg CL CS CT CR CP CW aS aR fS fT fR fP) (D_names_of : DefOk P w K mg base CX0 1 "names_of" ["things"] (spNames K)) (D_Line_read_new_name : MDef P w K mg base CX0 4 CL "read_new_name" ["self", "used"] [] (spNewName K CL))
    (D_Line_read_field : MDef P w K mg base CX0 4 CL "read_field" ["self", "word", "least", "most"] [] (spField CL)) (D_Line_read_choice : MDef P w K mg base CX0 3 CL "read_choice" ["self", "choices"] [] (spChoice K CL))
    (D_read_light : DefOk P w K mg base CX0 4 "read_light" ["line", "horizon"] (spLight K CL)) (DI_Satellite : MDef P w K mg base CX0 1 CS "__init__" ["self", "name", "store", "battery", "start_level", "reserve", "charge", "settle", "light"] [] (spI_Satellite CS))
    (A : At K mg "read_satellite" s_read_satellite ["line", "horizon", "things"]) : DefOk P w K mg base CX0 5 "read_satellite" ["line", "horizon", "things"] (spRdSat K CL CS) := by
  have B := T.L.B
  refine A.ok sc_read_satellite (fun vs H Q E h => ?_) (fun f cdv A outer s H vs Q E hr h => ?_)
  · obtain ⟨a, h, th, s, ns, rfl, _⟩ := h
    rfl
  obtain ⟨a, h, th, sd, ns, rfl, hL, hN, hno, ok, hh, hh5, q⟩ := h
  refine ⟨_, pss_cons (ps_set (i := 3) sc_read_satellite.nd rfl (Or.inl rfl) (pe_m D_Line_read_new_name T.c_Line.cl (hr.mono (by omega)) pass0 (pv 0) (pa_cons (pe_f D_names_of (hr.mono (by omega)) pass0 (pa_cons (pe_ix ix_tup (pv 2) (pe_gi T.g_SATELLITES) (fun _ _ => rfl)) pa_nil)) pa_nil)))
  (pss_cons (ps_set (i := 4) sc_read_satellite.nd rfl (Or.inl rfl) (pe_m D_Line_read_field T.c_Line.cl (hr.mono (by omega)) pass0 (pv 0) (pa_cons pe_str (pa_cons pe_int (pa_cons (pe_gi T.g_MOST_UNITS) pa_nil)))))
  (pss_cons (ps_set (i := 5) sc_read_satellite.nd rfl (Or.inl rfl) (pe_m D_Line_read_field T.c_Line.cl (hr.mono (by omega)) pass0 (pv 0) (pa_cons pe_str (pa_cons pe_int (pa_cons (pe_gi T.g_MOST_UNITS) pa_nil)))))
  (C8.pss_cut (ps_set (i := 6) sc_read_satellite.nd rfl (Or.inl rfl) (pe_m D_Line_read_field T.c_Line.cl (hr.mono (by omega)) pass0 (pv 0) (pa_cons pe_str (pa_cons pe_int (pa_cons (pv 5) pa_nil)))))
  (pss_cons (ps_set (i := 7) sc_read_satellite.nd rfl (Or.inl rfl) (pe_m D_Line_read_field T.c_Line.cl (hr.mono (by omega)) pass0 (pv 0) (pa_cons pe_str (pa_cons pe_int (pa_cons (pv 6) pa_nil)))))
  (pss_cons (ps_set (i := 8) sc_read_satellite.nd rfl (Or.inl rfl) (pe_m D_Line_read_field T.c_Line.cl (hr.mono (by omega)) pass0 (pv 0) (pa_cons pe_str (pa_cons pe_int (pa_cons (pe_gi T.g_MOST_CHARGE) pa_nil)))))
  (pss_cons (ps_set (i := 9) sc_read_satellite.nd rfl (Or.inl rfl) (pe_m D_Line_read_field T.c_Line.cl (hr.mono (by omega)) pass0 (pv 0) (pa_cons pe_str (pa_cons pe_int (pa_cons (pe_gi T.g_MOST_DELAY) pa_nil)))))
  (pss_cons (ps_expr (pe_m D_Line_read_choice T.c_Line.cl (hr.mono (by omega)) pass0 (pv 0) (pa_cons (pe_tup (pa_cons pe_str pa_nil)) pa_nil)))
  (pss_cons (ps_set (i := 10) sc_read_satellite.nd rfl (Or.inl rfl) (pe_f D_read_light (hr.mono (by omega)) pass0 (pa_cons (pv 0) (pa_cons (pv 1) pa_nil))))
  (pss_one (ps_ret (pe_mk DI_Satellite T.c_Satellite (hr.mono (by omega)) pass0 (pa_cons (pv 3) (pa_cons (pv 4) (pa_cons (pv 5) (pa_cons (pv 6) (pa_cons (pv 7) (pa_cons (pv 8) (pa_cons (pv 9) (pa_cons (pv 10) pa_nil)))))))))))))))))))
    , ?_⟩
  have b1 := ok.store; have b2 := ok.battery; have b3 := ok.level; have b4 := ok.reserve; have b5 := ok.charge; have b6 := ok.settle
  obtain ⟨ls, l, xs, t1, t2, t3, t4, t5⟩ := hN
  obtain ⟨_, _, g0, z0⟩ := LnAt.no hL (m := "read_new_name") (by decide +kernel) (by decide +kernel) (by decide +kernel) (by decide +kernel)
  refine ⟨_, rfl, a, _, _, rfl, g0, z0, _, rfl, th, _, _, .ref l, rfl, rfl, t1, atI_nat (j := 0) (by rw [List.getElem?_map, t2]; rfl), l, xs, ns, rfl, t3, t4, t5, fun p H1 s1 np hp => ?_⟩
  refine ⟨a, _, 1, p, ns, sd.name, rfl, hL.same s1, SqL.of hp, rfl, ok.name, hno, fun H2 s2 L2 => ?_⟩
  (obtain ⟨_, _, g2, z2⟩ := LnAt.no L2 (m := "read_field") (by decide +kernel) (by decide +kernel) (by decide +kernel) (by decide +kernel); refine ⟨_, rfl, a, _, _, rfl, g2, z2, a, _, 2, _, _, _, sd.store, rfl, L2, rfl, rfl, by omega, by omega, by omega, by omega, fun H3 s3 L3 => ?_⟩)
  (obtain ⟨_, _, g3, z3⟩ := LnAt.no L3 (m := "read_field") (by decide +kernel) (by decide +kernel) (by decide +kernel) (by decide +kernel); refine ⟨_, rfl, a, _, _, rfl, g3, z3, a, _, 4, _, _, _, sd.battery, rfl, L3, rfl, rfl, by omega, by omega, by omega, by omega, fun H4 s4 L4 => ?_⟩)
  refine ⟨fun σ' H' => σ' = [some (.ref a), some (.int h), some (.ref th), some (.str sd.name), some (.int sd.store), some (.int sd.battery), some (.int sd.level), none, none, none, none] ∧ SameX a H H' ∧ LnAt CL H' a (wSat sd) 8, ?_, fun σ' H5 hm => ?_⟩
  · (obtain ⟨_, _, g4, z4⟩ := LnAt.no L4 (m := "read_field") (by decide +kernel) (by decide +kernel) (by decide +kernel) (by decide +kernel); refine ⟨_, rfl, a, _, _, rfl, g4, z4, _, rfl, a, _, 6, _, _, _, sd.level, rfl, L4, rfl, rfl, by omega, by omega, by omega, by omega, fun H5 s5 L5 => ?_⟩)
    exact ⟨rfl, ((((SameX.of s1).trans s2).trans s3).trans s4).trans s5, L5⟩
  obtain ⟨rfl, s05, L5⟩ := hm
  (obtain ⟨_, _, g5, z5⟩ := LnAt.no L5 (m := "read_field") (by decide +kernel) (by decide +kernel) (by decide +kernel) (by decide +kernel); refine ⟨_, rfl, a, _, _, rfl, g5, z5, _, rfl, a, _, 8, _, _, _, sd.reserve, rfl, L5, rfl, rfl, by omega, by omega, by omega, by omega, fun H6 s6 L6 => ?_⟩)
  (obtain ⟨_, _, g6, z6⟩ := LnAt.no L6 (m := "read_field") (by decide +kernel) (by decide +kernel) (by decide +kernel) (by decide +kernel); refine ⟨_, rfl, a, _, _, rfl, g6, z6, a, _, 10, _, _, _, sd.charge, rfl, L6, rfl, rfl, by omega, by omega, by omega, by omega, fun H7 s7 L7 => ?_⟩)
  (obtain ⟨_, _, g7, z7⟩ := LnAt.no L7 (m := "read_field") (by decide +kernel) (by decide +kernel) (by decide +kernel) (by decide +kernel); refine ⟨_, rfl, a, _, _, rfl, g7, z7, a, _, 12, _, _, _, sd.settle, rfl, L7, rfl, rfl, by omega, by omega, by omega, by omega, fun H8 s8 L8 => ?_⟩)
  obtain ⟨_, _, g8, z8⟩ := LnAt.no L8 (m := "read_choice") (by decide +kernel) (by decide +kernel) (by decide +kernel) (by decide +kernel)
  refine ⟨_, rfl, a, _, _, rfl, g8, z8, (by show 1 ≤ sizeLine; decide), fun t ht => ?_⟩
  refine ⟨a, _, 14, t, [Str.ofString "light"], Str.ofString "light", rfl, L8.same (same_new ht _), SqT.of upd_same, rfl, List.mem_cons_self, fun H9 s9 L9 => ?_⟩
  refine ⟨_, rfl, _, rfl, a, _, 15, h, sd.light, rfl, L9, by unfold wSat; rw [List.length_append]; exact Nat.le_add_right 15 _, rfl, ok.light, hh5, by omega, fun t ls' H10 s10 L10 htt hsp => ?_⟩
  refine ⟨_, rfl, _, rfl, _, rfl, _, rfl, _, rfl, _, rfl, _, rfl, _, rfl, fun x dx hx hdx ne => ?_⟩
  refine ⟨x, dx, _, _, _, _, _, _, _, _, rfl, upd_same, rfl, ?_⟩
  have sA : SameX a H H10 := ((((s05.trans s6).trans s7).trans s8).trans (SameX.of (same_new ht _))).trans (s9.trans s10)
  have sB := same_made (o := .own x) (u := .ins CS dx []) (v := .ins CS dx (satF sd t)) hx hdx
  obtain ⟨o, ho⟩ := L10.there
  refine q x _ (sA.free ho hx) (sA.trans (SameX.of sB)) (L10.same sB) ⟨x, dx, t, ls', rfl, upd_same, SqT.of (sB _ _ htt), hsp.same sB⟩
def spRdSta (K : PySem.W.Frag) (CL CT : Addr) : Sp := fun vs H Q _ => ∃ (a : Addr) (h : Int) (th : Addr) (s : StaD) (ns : List Str), vs = [.ref a, .int h, .ref th] ∧ LnAt CL H a (wSta s) 1 ∧ NamesAt K H th 1 ns ∧ s.name ∉ ns ∧ StaOk s ∧
  ∀ b H', H b = none → SameX a H H' → LnAt CL H' a (wSta s) (wSta s).length → StaAt CT H' (.ref b) s → Q (.ref b) H'
theorem d_read_station (T : TxtW K mg CL CS CT CR CP CW aS aR fS fT fR fP) (D_names_of : DefOk P w K mg base CX0 1 "names_of" ["things"] (spNames K)) (D_Line_read_new_name : MDef P w K mg base CX0 4 CL "read_new_name" ["self", "used"] [] (spNewName K CL))
    (D_Line_read_field : MDef P w K mg base CX0 4 CL "read_field" ["self", "word", "least", "most"] [] (spField CL)) (DI_Station : MDef P w K mg base CX0 1 CT "__init__" ["self", "name", "antennas", "turn"] [] (spI_Station CT))
    (A : At K mg "read_station" s_read_station ["line", "_", "things"]) : DefOk P w K mg base CX0 5 "read_station" ["line", "_", "things"] (spRdSta K CL CT) := by
  have B := T.L.B
  refine A.ok sc_read_station (fun vs H Q E h => ?_) (fun f cdv A outer s H vs Q E hr h => ?_)
  · obtain ⟨a, h, th, s, ns, rfl, _⟩ := h
    rfl
  obtain ⟨a, h, th, sd, ns, rfl, hL, hN, hno, ok, q⟩ := h
  refine ⟨_, pss_cons (ps_set (i := 3) sc_read_station.nd rfl (Or.inl rfl) (pe_m D_Line_read_new_name T.c_Line.cl (hr.mono (by omega)) pass0 (pv 0) (pa_cons (pe_f D_names_of (hr.mono (by omega)) pass0 (pa_cons (pe_ix ix_tup (pv 2) (pe_gi T.g_STATIONS) (fun _ _ => rfl)) pa_nil)) pa_nil)))
  (pss_cons (ps_set (i := 4) sc_read_station.nd rfl (Or.inl rfl) (pe_m D_Line_read_field T.c_Line.cl (hr.mono (by omega)) pass0 (pv 0) (pa_cons pe_str (pa_cons pe_int (pa_cons (pe_gi T.g_MOST_ANTENNAS) pa_nil)))))
  (pss_cons (ps_set (i := 5) sc_read_station.nd rfl (Or.inl rfl) (pe_m D_Line_read_field T.c_Line.cl (hr.mono (by omega)) pass0 (pv 0) (pa_cons pe_str (pa_cons pe_int (pa_cons (pe_gi T.g_MOST_DELAY) pa_nil)))))
  (pss_one (ps_ret (pe_mk DI_Station T.c_Station (hr.mono (by omega)) pass0 (pa_cons (pv 3) (pa_cons (pv 4) (pa_cons (pv 5) pa_nil))))))))
    , ?_⟩
  have b1 := ok.antennas; have b2 := ok.turn
  obtain ⟨ls, l, xs, t1, t2, t3, t4, t5⟩ := hN
  obtain ⟨_, _, g0, z0⟩ := LnAt.no hL (m := "read_new_name") (by decide +kernel) (by decide +kernel) (by decide +kernel) (by decide +kernel)
  refine ⟨_, rfl, a, _, _, rfl, g0, z0, _, rfl, th, _, _, .ref l, rfl, rfl, t1, atI_nat (j := 1) (by rw [List.getElem?_map, t2]; rfl), l, xs, ns, rfl, t3, t4, t5, fun p H1 s1 np hp => ?_⟩
  refine ⟨a, _, 1, p, ns, sd.name, rfl, hL.same s1, SqL.of hp, rfl, ok.name, hno, fun H2 s2 L2 => ?_⟩
  (obtain ⟨_, _, g2, z2⟩ := LnAt.no L2 (m := "read_field") (by decide +kernel) (by decide +kernel) (by decide +kernel) (by decide +kernel); refine ⟨_, rfl, a, _, _, rfl, g2, z2, a, _, 2, _, _, _, sd.antennas, rfl, L2, rfl, rfl, by omega, by omega, by omega, by omega, fun H3 s3 L3 => ?_⟩)
  (obtain ⟨_, _, g3, z3⟩ := LnAt.no L3 (m := "read_field") (by decide +kernel) (by decide +kernel) (by decide +kernel) (by decide +kernel); refine ⟨_, rfl, a, _, _, rfl, g3, z3, a, _, 4, _, _, _, sd.turn, rfl, L3, rfl, rfl, by omega, by omega, by omega, by omega, fun H10 s4 L10 => ?_⟩)
  refine ⟨_, rfl, _, rfl, _, rfl, fun x dx hx hdx ne => ?_⟩
  refine ⟨x, dx, _, _, _, rfl, upd_same, rfl, ?_⟩
  have sA : SameX a H H10 := (((SameX.of s1).trans s2).trans s3).trans s4
  have sB := same_made (o := .own x) (u := .ins CT dx []) (v := .ins CT dx (staF sd)) hx hdx
  obtain ⟨o, ho⟩ := L10.there
  exact q x _ (sA.free ho hx) (sA.trans (SameX.of sB)) (L10.same sB) ⟨x, dx, rfl, upd_same⟩
def spRdRec (K : PySem.W.Frag) (CL CR : Addr) : Sp := fun vs H Q _ => ∃ (a : Addr) (th : Addr) (W : WorldD) (s : RecD) (ns : List Str), vs = [.ref a, .int W.horizon, .ref th] ∧ LnAt CL H a (wRec W s) 1 ∧ NamesAt K H th 2 ns ∧ NamesAt K H th 0 (W.sats.map (·.name)) ∧ s.name ∉ ns ∧ WorldOk W ∧ RecOk W s ∧
  ∀ b H', H b = none → SameX a H H' → LnAt CL H' a (wRec W s) (wRec W s).length → RecAt CR H' (.ref b) s → Q (.ref b) H'
theorem d_read_recording (T : TxtW K mg CL CS CT CR CP CW aS aR fS fT fR fP) (D_names_of : DefOk P w K mg base CX0 1 "names_of" ["things"] (spNames K)) (D_Line_read_new_name : MDef P w K mg base CX0 4 CL "read_new_name" ["self", "used"] [] (spNewName K CL))
    (D_Line_read_field : MDef P w K mg base CX0 4 CL "read_field" ["self", "word", "least", "most"] [] (spField CL)) (D_Line_read_choice : MDef P w K mg base CX0 3 CL "read_choice" ["self", "choices"] [] (spChoice K CL))
    (D_Line_read_known_name : MDef P w K mg base CX0 4 CL "read_known_name" ["self", "names", "least"] [.int 0] (spKnownName K CL))
    (DI_Recording : MDef P w K mg base CX0 1 CR "__init__" ["self", "name", "satellite", "earliest", "latest", "length", "size", "energy", "worth", "rank", "deadline"] [] (spI_Recording CR))
    (A : At K mg "read_recording" s_read_recording ["line", "horizon", "things"]) : DefOk P w K mg base CX0 5 "read_recording" ["line", "horizon", "things"] (spRdRec K CL CR) := by
  have B := T.L.B
  refine A.ok sc_read_recording (fun vs H Q E h => ?_) (fun f cdv A outer s H vs Q E hr h => ?_)
  · obtain ⟨a, th, W, s, ns, rfl, _⟩ := h
    rfl
  obtain ⟨a, th, W, sd, ns, rfl, hL, hN, hS, hno, wok, ok, q⟩ := h
  refine ⟨_, pss_cons (ps_set (i := 3) sc_read_recording.nd rfl (Or.inl rfl) (pe_m D_Line_read_new_name T.c_Line.cl (hr.mono (by omega)) pass0 (pv 0) (pa_cons (pe_f D_names_of (hr.mono (by omega)) pass0 (pa_cons (pe_ix ix_tup (pv 2) (pe_gi T.g_RECORDINGS) (fun _ _ => rfl)) pa_nil)) pa_nil)))
  (pss_cons (ps_expr (pe_m D_Line_read_choice T.c_Line.cl (hr.mono (by omega)) pass0 (pv 0) (pa_cons (pe_tup (pa_cons pe_str pa_nil)) pa_nil)))
  (C8.pss_cut (ps_set (i := 4) sc_read_recording.nd rfl (Or.inl rfl) (pe_m D_Line_read_known_name T.c_Line.cl (hr.mono (by omega)) pass0 (pv 0) (pa_cons (pe_f D_names_of (hr.mono (by omega)) pass0 (pa_cons (pe_ix ix_tup (pv 2) (pe_gi T.g_SATELLITES) (fun _ _ => rfl)) pa_nil)) pa_nil)))
  (pss_cons (ps_set (i := 5) sc_read_recording.nd rfl (Or.inl rfl) (pe_m D_Line_read_field T.c_Line.cl (hr.mono (by omega)) pass0 (pv 0) (pa_cons pe_str (pa_cons pe_int (pa_cons (pe_op op_sub (pv 1) pe_int) pa_nil)))))
  (pss_cons (ps_set (i := 6) sc_read_recording.nd rfl (Or.inl rfl) (pe_m D_Line_read_field T.c_Line.cl (hr.mono (by omega)) pass0 (pv 0) (pa_cons pe_str (pa_cons (pv 5) (pa_cons (pe_callB (call_min2 rfl) (by rfl) B.min (by decide +kernel) (pa_cons (pe_op op_add (pv 5) (ClX.pe_cval (pe_ga T.c_World.gC) rfl)) (pa_cons (pe_op op_sub (pv 1) pe_int) pa_nil))) pa_nil)))))
  (pss_cons (ps_set (i := 7) sc_read_recording.nd rfl (Or.inl rfl) (pe_m D_Line_read_field T.c_Line.cl (hr.mono (by omega)) pass0 (pv 0) (pa_cons pe_str (pa_cons pe_int (pa_cons (pe_op op_sub (pv 1) (pv 6)) pa_nil)))))
  (pss_cons (ps_set (i := 8) sc_read_recording.nd rfl (Or.inl rfl) (pe_m D_Line_read_field T.c_Line.cl (hr.mono (by omega)) pass0 (pv 0) (pa_cons pe_str (pa_cons pe_int (pa_cons (pe_gi T.g_MOST_UNITS) pa_nil)))))
  (pss_cons (ps_set (i := 9) sc_read_recording.nd rfl (Or.inl rfl) (pe_m D_Line_read_field T.c_Line.cl (hr.mono (by omega)) pass0 (pv 0) (pa_cons pe_str (pa_cons pe_int (pa_cons (pe_gi T.g_MOST_UNITS) pa_nil)))))
  (pss_cons (ps_set (i := 10) sc_read_recording.nd rfl (Or.inl rfl) (pe_m D_Line_read_field T.c_Line.cl (hr.mono (by omega)) pass0 (pv 0) (pa_cons pe_str (pa_cons pe_int (pa_cons (pe_gi T.g_MOST_WORTH) pa_nil)))))
  (pss_cons (ps_set (i := 11) sc_read_recording.nd rfl (Or.inl rfl) (pe_m D_Line_read_field T.c_Line.cl (hr.mono (by omega)) pass0 (pv 0) (pa_cons pe_str (pa_cons pe_int (pa_cons (pe_gi T.g_MOST_RANK) pa_nil)))))
  (pss_cons (ps_set (i := 12) sc_read_recording.nd rfl (Or.inl rfl) (pe_m D_Line_read_field T.c_Line.cl (hr.mono (by omega)) pass0 (pv 0) (pa_cons pe_str (pa_cons pe_int (pa_cons (pv 1) pa_nil)))))
  (pss_one (ps_ret (pe_mk DI_Recording T.c_Recording (hr.mono (by omega)) pass0 (pa_cons (pv 3) (pa_cons (pv 4) (pa_cons (pv 5) (pa_cons (pv 6) (pa_cons (pv 7) (pa_cons (pv 8) (pa_cons (pv 9) (pa_cons (pv 10) (pa_cons (pv 11) (pa_cons (pv 12) pa_nil)))))))))))))))))))))))
    , ?_⟩
  have b0 := wok.horizon; have b1 := ok.earliest; have b2 := ok.latest; have b3 := ok.length; have b4 := ok.size; have b5 := ok.energy; have b6 := ok.worth; have b7 := ok.rank; have b8 := ok.deadline
  obtain ⟨ls, l, xs, t1, t2, t3, t4, t5⟩ := hN
  obtain ⟨_, _, g0, z0⟩ := LnAt.no hL (m := "read_new_name") (by decide +kernel) (by decide +kernel) (by decide +kernel) (by decide +kernel)
  refine ⟨_, rfl, a, _, _, rfl, g0, z0, _, rfl, th, _, _, .ref l, rfl, rfl, t1, atI_nat (j := 2) (by rw [List.getElem?_map, t2]; rfl), l, xs, ns, rfl, t3, t4, t5, fun p H1 s1 np hp => ?_⟩
  refine ⟨a, _, 1, p, ns, sd.name, rfl, hL.same s1, SqL.of hp, rfl, ok.name, hno, fun H2 s2 L2 => ?_⟩
  obtain ⟨_, _, g2, z2⟩ := LnAt.no L2 (m := "read_choice") (by decide +kernel) (by decide +kernel) (by decide +kernel) (by decide +kernel)
  refine ⟨_, rfl, a, _, _, rfl, g2, z2, (by show 1 ≤ sizeLine; decide), fun t ht => ?_⟩
  refine ⟨a, _, 2, t, [Str.ofString "by"], Str.ofString "by", rfl, L2.same (same_new ht _), SqT.of upd_same, rfl, List.mem_cons_self, fun H3 s3 L3 => ?_⟩
  have s03 : SameX a H H3 := (((SameX.of s1).trans s2).trans (SameX.of (same_new ht _))).trans s3
  refine ⟨fun σ' H' => σ' = [some (.ref a), some (.int W.horizon), some (.ref th), some (.str sd.name), some (.int (sd.sat : Int)), none, none, none, none, none, none, none, none] ∧ SameX a H H' ∧ LnAt CL H' a (wRec W sd) 4, ?_, fun σ' H5 h => ?_⟩
  · obtain ⟨ls', l', xs', u1, u2, u3, u4, u5⟩ := hS.sameX hL s03
    obtain ⟨_, _, g3, z3⟩ := LnAt.no L3 (m := "read_known_name") (by decide +kernel) (by decide +kernel) (by decide +kernel) (by decide +kernel)
    refine ⟨_, rfl, a, _, _, rfl, g3, z3, _, rfl, th, _, _, .ref l', rfl, rfl, u1, atI_nat (j := 0) (by rw [List.getElem?_map, u2]; rfl), l', xs', _, rfl, u3, u4, u5, fun p2 H4 s4 np2 hp2 => ?_⟩
    refine ⟨a, _, 3, p2, _, satN W sd.sat, sd.sat, 0, rfl, L3.same s4, SqL.of hp2, rfl, satN_ok wok ok.sat, satN_at ok.sat, wok.dSats, by omega, fun H5 s5 L5 => ?_⟩
    exact ⟨rfl, (s03.trans (SameX.of s4)).trans s5, L5⟩
  obtain ⟨rfl, s05, L5⟩ := h
  (obtain ⟨_, _, g5, z5⟩ := LnAt.no L5 (m := "read_field") (by decide +kernel) (by decide +kernel) (by decide +kernel) (by decide +kernel); refine ⟨_, rfl, a, _, _, rfl, g5, z5, _, rfl, _, _, rfl, rfl, a, _, 4, _, _, _, sd.earliest, rfl, L5, rfl, rfl, by omega, by omega, by omega, by omega, fun H6 s6 L6 => ?_⟩)
  obtain ⟨tk, hv⟩ := T.v_MOST_SHIFT
  (obtain ⟨_, _, g6, z6⟩ := LnAt.no L6 (m := "read_field") (by decide +kernel) (by decide +kernel) (by decide +kernel) (by decide +kernel); refine ⟨_, rfl, a, _, _, rfl, g6, z6, _, rfl, _, rfl, CW, _, _, _, rfl, T.rdW, hv, _, _, rfl, rfl, _, rfl, _, _, rfl, rfl, _, _, rfl, a, _, 6, _, _, _, sd.latest, rfl, L6, rfl, rfl, by omega, by omega, by omega, le_min2 (by omega) (by omega), fun H7 s7 L7 => ?_⟩)
  (obtain ⟨_, _, g7, z7⟩ := LnAt.no L7 (m := "read_field") (by decide +kernel) (by decide +kernel) (by decide +kernel) (by decide +kernel); refine ⟨_, rfl, a, _, _, rfl, g7, z7, _, rfl, _, rfl, _, _, rfl, rfl, a, _, 8, _, _, _, sd.length, rfl, L7, rfl, rfl, by omega, by omega, by omega, by omega, fun H8 s8 L8 => ?_⟩)
  (obtain ⟨_, _, g8, z8⟩ := LnAt.no L8 (m := "read_field") (by decide +kernel) (by decide +kernel) (by decide +kernel) (by decide +kernel); refine ⟨_, rfl, a, _, _, rfl, g8, z8, a, _, 10, _, _, _, sd.size, rfl, L8, rfl, rfl, by omega, by omega, by omega, by omega, fun H9 s9 L9 => ?_⟩)
  (obtain ⟨_, _, g9, z9⟩ := LnAt.no L9 (m := "read_field") (by decide +kernel) (by decide +kernel) (by decide +kernel) (by decide +kernel); refine ⟨_, rfl, a, _, _, rfl, g9, z9, a, _, 12, _, _, _, sd.energy, rfl, L9, rfl, rfl, by omega, by omega, by omega, by omega, fun H10 s10 L10 => ?_⟩)
  (obtain ⟨_, _, g10, z10⟩ := LnAt.no L10 (m := "read_field") (by decide +kernel) (by decide +kernel) (by decide +kernel) (by decide +kernel); refine ⟨_, rfl, a, _, _, rfl, g10, z10, a, _, 14, _, _, _, sd.worth, rfl, L10, rfl, rfl, by omega, by omega, by omega, by omega, fun H11 s11 L11 => ?_⟩)
  (obtain ⟨_, _, g11, z11⟩ := LnAt.no L11 (m := "read_field") (by decide +kernel) (by decide +kernel) (by decide +kernel) (by decide +kernel); refine ⟨_, rfl, a, _, _, rfl, g11, z11, a, _, 16, _, _, _, sd.rank, rfl, L11, rfl, rfl, by omega, by omega, by omega, by omega, fun H12 s12 L12 => ?_⟩)
  (obtain ⟨_, _, g12, z12⟩ := LnAt.no L12 (m := "read_field") (by decide +kernel) (by decide +kernel) (by decide +kernel) (by decide +kernel); refine ⟨_, rfl, a, _, _, rfl, g12, z12, _, rfl, a, _, 18, _, _, _, sd.deadline, rfl, L12, rfl, rfl, by omega, by omega, by omega, by omega, fun H13 s13 L13 => ?_⟩)
  refine ⟨_, rfl, _, rfl, _, rfl, _, rfl, _, rfl, _, rfl, _, rfl, _, rfl, _, rfl, _, rfl, fun x dx hx hdx ne => ?_⟩
  refine ⟨x, dx, _, _, _, _, _, _, _, _, _, _, rfl, upd_same, rfl, ?_⟩
  have sA : SameX a H H13 := (((((((s05.trans s6).trans s7).trans s8).trans s9).trans s10).trans s11).trans s12).trans s13
  have sB := same_made (o := .own x) (u := .ins CR dx []) (v := .ins CR dx (recF sd)) hx hdx
  obtain ⟨o, ho⟩ := L13.there
  exact q x _ (sA.free ho hx) (sA.trans (SameX.of sB)) (L13.same sB) ⟨x, dx, rfl, upd_same⟩
def spRdPas (K : PySem.W.Frag) (CL CP : Addr) : Sp := fun vs H Q _ => ∃ (a : Addr) (th : Addr) (W : WorldD) (s : PasD) (ns : List Str), vs = [.ref a, .int W.horizon, .ref th] ∧ LnAt CL H a (wPas W s) 1 ∧ NamesAt K H th 3 ns ∧ NamesAt K H th 0 (W.sats.map (·.name)) ∧ NamesAt K H th 1 (W.stas.map (·.name)) ∧ s.name ∉ ns ∧ WorldOk W ∧ PasOk W s ∧
  ∀ b H', H b = none → SameX a H H' → LnAt CL H' a (wPas W s) (wPas W s).length → PasAt K CP H' (.ref b) s → Q (.ref b) H'
theorem d_read_pass (T : TxtW K mg CL CS CT CR CP CW aS aR fS fT fR fP) (D_names_of : DefOk P w K mg base CX0 1 "names_of" ["things"] (spNames K)) (D_Line_read_new_name : MDef P w K mg base CX0 4 CL "read_new_name" ["self", "used"] [] (spNewName K CL))
    (D_Line_read_field : MDef P w K mg base CX0 4 CL "read_field" ["self", "word", "least", "most"] [] (spField CL)) (D_Line_read_choice : MDef P w K mg base CX0 3 CL "read_choice" ["self", "choices"] [] (spChoice K CL))
    (D_Line_read_known_name : MDef P w K mg base CX0 4 CL "read_known_name" ["self", "names", "least"] [.int 0] (spKnownName K CL))
    (DI_Pass : MDef P w K mg base CX0 1 CP "__init__" ["self", "name", "satellite", "station", "span", "room", "energy", "fee"] [] (spI_Pass CP))
    (A : At K mg "read_pass" s_read_pass ["line", "horizon", "things"]) : DefOk P w K mg base CX0 5 "read_pass" ["line", "horizon", "things"] (spRdPas K CL CP) := by
  have B := T.L.B
  refine A.ok sc_read_pass (fun vs H Q E h => ?_) (fun f cdv A outer s H vs Q E hr h => ?_)
  · obtain ⟨a, th, W, s, ns, rfl, _⟩ := h
    rfl
  obtain ⟨a, th, W, sd, ns, rfl, hL, hN, hS, hT, hno, wok, ok, q⟩ := h
  refine ⟨_, pss_cons (ps_set (i := 3) sc_read_pass.nd rfl (Or.inl rfl) (pe_m D_Line_read_new_name T.c_Line.cl (hr.mono (by omega)) pass0 (pv 0) (pa_cons (pe_f D_names_of (hr.mono (by omega)) pass0 (pa_cons (pe_ix ix_tup (pv 2) (pe_gi T.g_PASSES) (fun _ _ => rfl)) pa_nil)) pa_nil)))
  (pss_cons (ps_expr (pe_m D_Line_read_choice T.c_Line.cl (hr.mono (by omega)) pass0 (pv 0) (pa_cons (pe_tup (pa_cons pe_str pa_nil)) pa_nil)))
  (pss_cons (ps_set (i := 4) sc_read_pass.nd rfl (Or.inl rfl) (pe_m D_Line_read_known_name T.c_Line.cl (hr.mono (by omega)) pass0 (pv 0) (pa_cons (pe_f D_names_of (hr.mono (by omega)) pass0 (pa_cons (pe_ix ix_tup (pv 2) (pe_gi T.g_SATELLITES) (fun _ _ => rfl)) pa_nil)) pa_nil)))
  (pss_cons (ps_expr (pe_m D_Line_read_choice T.c_Line.cl (hr.mono (by omega)) pass0 (pv 0) (pa_cons (pe_tup (pa_cons pe_str pa_nil)) pa_nil)))
  (C8.pss_cut (ps_set (i := 5) sc_read_pass.nd rfl (Or.inl rfl) (pe_m D_Line_read_known_name T.c_Line.cl (hr.mono (by omega)) pass0 (pv 0) (pa_cons (pe_f D_names_of (hr.mono (by omega)) pass0 (pa_cons (pe_ix ix_tup (pv 2) (pe_gi T.g_STATIONS) (fun _ _ => rfl)) pa_nil)) pa_nil)))
  (pss_cons (ps_set (i := 6) sc_read_pass.nd rfl (Or.inl rfl) (pe_m D_Line_read_field T.c_Line.cl (hr.mono (by omega)) pass0 (pv 0) (pa_cons pe_str (pa_cons pe_int (pa_cons (pe_op op_sub (pv 1) pe_int) pa_nil)))))
  (pss_cons (ps_set (i := 7) sc_read_pass.nd rfl (Or.inl rfl) (pe_m D_Line_read_field T.c_Line.cl (hr.mono (by omega)) pass0 (pv 0) (pa_cons pe_str (pa_cons (pe_op op_add (pv 6) pe_int) (pa_cons (pv 1) pa_nil)))))
  (pss_cons (ps_set (i := 8) sc_read_pass.nd rfl (Or.inl rfl) (pe_m D_Line_read_field T.c_Line.cl (hr.mono (by omega)) pass0 (pv 0) (pa_cons pe_str (pa_cons pe_int (pa_cons (pe_gi T.g_MOST_UNITS) pa_nil)))))
  (pss_cons (ps_set (i := 9) sc_read_pass.nd rfl (Or.inl rfl) (pe_m D_Line_read_field T.c_Line.cl (hr.mono (by omega)) pass0 (pv 0) (pa_cons pe_str (pa_cons pe_int (pa_cons (pe_gi T.g_MOST_UNITS) pa_nil)))))
  (pss_cons (ps_set (i := 10) sc_read_pass.nd rfl (Or.inl rfl) (pe_m D_Line_read_field T.c_Line.cl (hr.mono (by omega)) pass0 (pv 0) (pa_cons pe_str (pa_cons pe_int (pa_cons (pe_gi T.g_MOST_FEE) pa_nil)))))
  (pss_one (ps_ret (pe_mk DI_Pass T.c_Pass (hr.mono (by omega)) pass0 (pa_cons (pv 3) (pa_cons (pv 4) (pa_cons (pv 5) (pa_cons (pe_tup (pa_cons (pv 6) (pa_cons (pv 7) pa_nil))) (pa_cons (pv 8) (pa_cons (pv 9) (pa_cons (pv 10) pa_nil)))))))))))))))))))
    , ?_⟩
  have b0 := wok.horizon; have b1 := ok.first; have b2 := ok.fin; have b3 := ok.room; have b4 := ok.energy; have b5 := ok.fee
  obtain ⟨ls, l, xs, t1, t2, t3, t4, t5⟩ := hN
  obtain ⟨_, _, g0, z0⟩ := LnAt.no hL (m := "read_new_name") (by decide +kernel) (by decide +kernel) (by decide +kernel) (by decide +kernel)
  refine ⟨_, rfl, a, _, _, rfl, g0, z0, _, rfl, th, _, _, .ref l, rfl, rfl, t1, atI_nat (j := 3) (by rw [List.getElem?_map, t2]; rfl), l, xs, ns, rfl, t3, t4, t5, fun p H1 s1 np hp => ?_⟩
  refine ⟨a, _, 1, p, ns, sd.name, rfl, hL.same s1, SqL.of hp, rfl, ok.name, hno, fun H2 s2 L2 => ?_⟩
  obtain ⟨_, _, g2, z2⟩ := LnAt.no L2 (m := "read_choice") (by decide +kernel) (by decide +kernel) (by decide +kernel) (by decide +kernel)
  refine ⟨_, rfl, a, _, _, rfl, g2, z2, (by show 1 ≤ sizeLine; decide), fun t ht => ?_⟩
  refine ⟨a, _, 2, t, [Str.ofString "by"], Str.ofString "by", rfl, L2.same (same_new ht _), SqT.of upd_same, rfl, List.mem_cons_self, fun H3 s3 L3 => ?_⟩
  have s03 : SameX a H H3 := (((SameX.of s1).trans s2).trans (SameX.of (same_new ht _))).trans s3
  obtain ⟨ls', l', xs', u1, u2, u3, u4, u5⟩ := hS.sameX hL s03
  obtain ⟨_, _, g3, z3⟩ := LnAt.no L3 (m := "read_known_name") (by decide +kernel) (by decide +kernel) (by decide +kernel) (by decide +kernel)
  refine ⟨_, rfl, a, _, _, rfl, g3, z3, _, rfl, th, _, _, .ref l', rfl, rfl, u1, atI_nat (j := 0) (by rw [List.getElem?_map, u2]; rfl), l', xs', _, rfl, u3, u4, u5, fun p2 H4 s4 np2 hp2 => ?_⟩
  refine ⟨a, _, 3, p2, _, satN W sd.sat, sd.sat, 0, rfl, L3.same s4, SqL.of hp2, rfl, satN_ok wok ok.sat, satN_at ok.sat, wok.dSats, by omega, fun H5 s5 L5 => ?_⟩
  obtain ⟨_, _, g5, z5⟩ := LnAt.no L5 (m := "read_choice") (by decide +kernel) (by decide +kernel) (by decide +kernel) (by decide +kernel)
  refine ⟨_, rfl, a, _, _, rfl, g5, z5, (by show 1 ≤ sizeLine; decide), fun t3 ht3 => ?_⟩
  refine ⟨a, _, 4, t3, [Str.ofString "over"], Str.ofString "over", rfl, L5.same (same_new ht3 _), SqT.of upd_same, rfl, List.mem_cons_self, fun H6 s6 L6 => ?_⟩
  have s06 : SameX a H H6 := (((s03.trans (SameX.of s4)).trans s5).trans (SameX.of (same_new ht3 _))).trans s6
  refine ⟨fun σ' H' => σ' = [some (.ref a), some (.int W.horizon), some (.ref th), some (.str sd.name), some (.int (sd.sat : Int)), some (.int (sd.sta : Int)), none, none, none, none, none] ∧ SameX a H H' ∧ LnAt CL H' a (wPas W sd) 6, ?_, fun σ' H8 h => ?_⟩
  · obtain ⟨ls6, l6, xs6, v1, v2, v3, v4, v5⟩ := hT.sameX hL s06
    obtain ⟨_, _, g6, z6⟩ := LnAt.no L6 (m := "read_known_name") (by decide +kernel) (by decide +kernel) (by decide +kernel) (by decide +kernel)
    refine ⟨_, rfl, a, _, _, rfl, g6, z6, _, rfl, th, _, _, .ref l6, rfl, rfl, v1, atI_nat (j := 1) (by rw [List.getElem?_map, v2]; rfl), l6, xs6, _, rfl, v3, v4, v5, fun p7 H7 s7 np7 hp7 => ?_⟩
    refine ⟨a, _, 5, p7, _, staN W sd.sta, sd.sta, 0, rfl, L6.same s7, SqL.of hp7, rfl, staN_ok wok ok.sta, staN_at ok.sta, wok.dStas, by omega, fun H8 s8 L8 => ?_⟩
    exact ⟨rfl, (s06.trans (SameX.of s7)).trans s8, L8⟩
  obtain ⟨rfl, s08, L8⟩ := h
  (obtain ⟨_, _, g8, z8⟩ := LnAt.no L8 (m := "read_field") (by decide +kernel) (by decide +kernel) (by decide +kernel) (by decide +kernel); refine ⟨_, rfl, a, _, _, rfl, g8, z8, _, rfl, _, _, rfl, rfl, a, _, 6, _, _, _, sd.first, rfl, L8, rfl, rfl, by omega, by omega, by omega, by omega, fun H9 s9 L9 => ?_⟩)
  (obtain ⟨_, _, g9, z9⟩ := LnAt.no L9 (m := "read_field") (by decide +kernel) (by decide +kernel) (by decide +kernel) (by decide +kernel); refine ⟨_, rfl, a, _, _, rfl, g9, z9, _, rfl, _, _, rfl, rfl, _, rfl, a, _, 8, _, _, _, sd.fin, rfl, L9, rfl, rfl, by omega, by omega, by omega, by omega, fun H10 s10 L10 => ?_⟩)
  (obtain ⟨_, _, g10, z10⟩ := LnAt.no L10 (m := "read_field") (by decide +kernel) (by decide +kernel) (by decide +kernel) (by decide +kernel); refine ⟨_, rfl, a, _, _, rfl, g10, z10, a, _, 10, _, _, _, sd.room, rfl, L10, rfl, rfl, by omega, by omega, by omega, by omega, fun H11 s11 L11 => ?_⟩)
  (obtain ⟨_, _, g11, z11⟩ := LnAt.no L11 (m := "read_field") (by decide +kernel) (by decide +kernel) (by decide +kernel) (by decide +kernel); refine ⟨_, rfl, a, _, _, rfl, g11, z11, a, _, 12, _, _, _, sd.energy, rfl, L11, rfl, rfl, by omega, by omega, by omega, by omega, fun H12 s12 L12 => ?_⟩)
  (obtain ⟨_, _, g12, z12⟩ := LnAt.no L12 (m := "read_field") (by decide +kernel) (by decide +kernel) (by decide +kernel) (by decide +kernel); refine ⟨_, rfl, a, _, _, rfl, g12, z12, a, _, 14, _, _, _, sd.fee, rfl, L12, rfl, rfl, by omega, by omega, by omega, by omega, fun H13 s13 L13 => ?_⟩)
  refine ⟨_, rfl, _, rfl, _, rfl, _, rfl, _, rfl, (by show 2 ≤ sizeLine; decide), fun sp hsp => ⟨_, rfl, _, rfl, _, rfl, fun x dx hx hdx ne => ?_⟩⟩
  refine ⟨x, dx, _, _, _, _, _, _, _, rfl, upd_same, rfl, ?_⟩
  have sA : SameX a H (upd H13 sp (.tup [.int sd.first, .int sd.fin])) := (((((s08.trans s9).trans s10).trans s11).trans s12).trans s13).trans (SameX.of (same_new hsp _))
  have sB := same_made (o := .own x) (u := .ins CP dx []) (v := .ins CP dx (pasF sd sp)) hx hdx
  have L14 := L13.same (same_new hsp (.tup [.int sd.first, .int sd.fin]))
  obtain ⟨o, ho⟩ := L14.there
  exact q x _ (sA.free ho hx) (sA.trans (SameX.of sB)) (L14.same sB) ⟨x, dx, sp, rfl, upd_same, SqT.of (sB _ _ upd_same)⟩
end
end DP
namespace DP
open PySem PySem.Spec PyProof.Rows L2
section
variable {K : PySem.W.Frag} {CL CS CT CR CP : Addr} {H H' : Hp} {a L : Addr} {ws : List Str} {r : Nat} {x : V} {ys : List V} {o : HO}
theorem SatAt.same {s : SatD} (h : SatAt K CS H x s) (z : Same H H') : SatAt K CS H' x s := by
  obtain ⟨b, dx, t, ls, h1, h2, h3, h4⟩ := h
  exact ⟨b, dx, t, ls, h1, z _ _ h2, Same.tup z h3, h4.same z⟩
theorem StaAt.same {s : StaD} (h : StaAt CT H x s) (z : Same H H') : StaAt CT H' x s := by
  obtain ⟨b, dx, h1, h2⟩ := h
  exact ⟨b, dx, h1, z _ _ h2⟩
theorem RecAt.same {s : RecD} (h : RecAt CR H x s) (z : Same H H') : RecAt CR H' x s := by
  obtain ⟨b, dx, h1, h2⟩ := h
  exact ⟨b, dx, h1, z _ _ h2⟩
theorem PasAt.same {s : PasD} (h : PasAt K CP H x s) (z : Same H H') : PasAt K CP H' x s := by
  obtain ⟨b, dx, t, h1, h2, h3⟩ := h
  exact ⟨b, dx, t, h1, z _ _ h2, Same.tup z h3⟩
theorem SatAt.sx {s : SatD} (h : SatAt K CS H x s) (hL : LnAt CL H a ws r) (z : SameX a H H') : SatAt K CS H' x s := by
  obtain ⟨dx', n, wl, c, g1, g2⟩ := hL.ex
  obtain ⟨b, dx, t, ls, h1, h2, h3, h4⟩ := h
  exact ⟨b, dx, t, ls, h1, z.ins g1 h2 (by show 8 ≠ 4; decide), z.sqT g1 h3, z.spans g1 h4⟩
theorem StaAt.sx {s : StaD} (h : StaAt CT H x s) (hL : LnAt CL H a ws r) (z : SameX a H H') : StaAt CT H' x s := by
  obtain ⟨dx', n, wl, c, g1, g2⟩ := hL.ex
  obtain ⟨b, dx, h1, h2⟩ := h
  exact ⟨b, dx, h1, z.ins g1 h2 (by show 3 ≠ 4; decide)⟩
theorem RecAt.sx {s : RecD} (h : RecAt CR H x s) (hL : LnAt CL H a ws r) (z : SameX a H H') : RecAt CR H' x s := by
  obtain ⟨dx', n, wl, c, g1, g2⟩ := hL.ex
  obtain ⟨b, dx, h1, h2⟩ := h
  exact ⟨b, dx, h1, z.ins g1 h2 (by show 10 ≠ 4; decide)⟩
theorem PasAt.sx {s : PasD} (h : PasAt K CP H x s) (hL : LnAt CL H a ws r) (z : SameX a H H') : PasAt K CP H' x s := by
  obtain ⟨dx', n, wl, c, g1, g2⟩ := hL.ex
  obtain ⟨b, dx, t, h1, h2, h3⟩ := h
  exact ⟨b, dx, t, h1, z.ins g1 h2 (by show 7 ≠ 4; decide), z.sqT g1 h3⟩
theorem SatAt.up {s : SatD} (h : SatAt K CS H x s) (e : H L = some (.lst ys)) : SatAt K CS (L2.upd H L o) x s := by
  obtain ⟨b, dx, t, ls, h1, h2, h3, h4⟩ := h
  exact ⟨b, dx, t, ls, h1, by rw [upd_ne (ne_of h2 e (fun z => nomatch z))]; exact h2, sqT_upd h3 e, h4.upd e⟩
theorem StaAt.up {s : StaD} (h : StaAt CT H x s) (e : H L = some (.lst ys)) : StaAt CT (L2.upd H L o) x s := by
  obtain ⟨b, dx, h1, h2⟩ := h
  exact ⟨b, dx, h1, by rw [upd_ne (ne_of h2 e (fun z => nomatch z))]; exact h2⟩
theorem RecAt.up {s : RecD} (h : RecAt CR H x s) (e : H L = some (.lst ys)) : RecAt CR (L2.upd H L o) x s := by
  obtain ⟨b, dx, h1, h2⟩ := h
  exact ⟨b, dx, h1, by rw [upd_ne (ne_of h2 e (fun z => nomatch z))]; exact h2⟩
theorem PasAt.up {s : PasD} (h : PasAt K CP H x s) (e : H L = some (.lst ys)) : PasAt K CP (L2.upd H L o) x s := by
  obtain ⟨b, dx, t, h1, h2, h3⟩ := h
  exact ⟨b, dx, t, h1, by rw [upd_ne (ne_of h2 e (fun z => nomatch z))]; exact h2, sqT_upd h3 e⟩
/-- a line stays where a list of objects is changed -/
theorem LnAt.up (h : LnAt CL H a ws r) (hne : ws ≠ []) (e : H L = some (.lst ys)) (hr : ∀ y ∈ ys, ∃ t, y = V.ref t) : LnAt CL (L2.upd H L o) a ws r := by
  obtain ⟨dx, n, wl, c, h1, h2⟩ := h.ex
  refine ⟨⟨dx, n, wl, c, by rw [upd_ne (ne_of h1 e (fun z => nomatch z))]; exact h1, ?_⟩, h.ok⟩
  rw [upd_ne]
  · exact h2
  · intro z
    rw [z, e] at h2
    have e2 : ys = ws.map V.str := HO.lst.inj (Option.some.inj h2)
    cases ws with
    | nil => exact hne rfl
    | cons w wr =>
      obtain ⟨t, ht⟩ := hr (.str w) (by rw [e2]; exact List.mem_cons_self)
      cases ht
theorem LnAt.sx {b : Addr} {vs : List Str} {q : Nat} (h : LnAt CL H a ws r) (hL : LnAt CL H b vs q) (n : a ≠ b) (z : SameX b H H') : LnAt CL H' a ws r := by
  obtain ⟨dx', n', wl', c', g1, g2⟩ := hL.ex
  obtain ⟨dx, m, wl, c, h1, h2⟩ := h.ex
  exact ⟨⟨dx, m, wl, c, z _ _ n h1, z _ _ (ne_of h2 g1 (fun z => nomatch z)) h2⟩, h.ok⟩
end
/-- the four lists of a world's things as far as they are read -/
structure Thg (K : PySem.W.Frag) (CS CT CR CP : Addr) (H : Hp) (th l0 l1 l2 l3 : Addr) (S : List SatD) (T : List StaD) (R : List RecD) (P : List PasD) : Prop where
  tup : H th = some (.tup [.ref l0, .ref l1, .ref l2, .ref l3])
  d01 : l0 ≠ l1
  d02 : l0 ≠ l2
  d03 : l0 ≠ l3
  d12 : l1 ≠ l2
  d13 : l1 ≠ l3
  d23 : l2 ≠ l3
  sats : ∃ xs, H l0 = some (.lst xs) ∧ Paired (SatAt K CS H) xs S
  stas : ∃ xs, H l1 = some (.lst xs) ∧ Paired (StaAt CT H) xs T
  recs : ∃ xs, H l2 = some (.lst xs) ∧ Paired (RecAt CR H) xs R
  pass : ∃ xs, H l3 = some (.lst xs) ∧ Paired (PasAt K CP H) xs P
theorem refs_sat {K : PySem.W.Frag} {C : Addr} {H : Hp} {xs : List V} {S : List SatD} (h : Paired (SatAt K C H) xs S) : ∀ y ∈ xs, ∃ t, y = V.ref t := fun y hy => by
  obtain ⟨i, hi, e⟩ := List.mem_iff_getElem.mp hy
  obtain ⟨s, _, b, _, _, _, e1, _⟩ := paired_at h (List.getElem?_eq_getElem hi)
  exact ⟨b, by rw [← e, e1]⟩
theorem refs_sta {C : Addr} {H : Hp} {xs : List V} {S : List StaD} (h : Paired (StaAt C H) xs S) : ∀ y ∈ xs, ∃ t, y = V.ref t := fun y hy => by
  obtain ⟨i, hi, e⟩ := List.mem_iff_getElem.mp hy
  obtain ⟨s, _, b, _, e1, _⟩ := paired_at h (List.getElem?_eq_getElem hi)
  exact ⟨b, by rw [← e, e1]⟩
theorem refs_rec {C : Addr} {H : Hp} {xs : List V} {S : List RecD} (h : Paired (RecAt C H) xs S) : ∀ y ∈ xs, ∃ t, y = V.ref t := fun y hy => by
  obtain ⟨i, hi, e⟩ := List.mem_iff_getElem.mp hy
  obtain ⟨s, _, b, _, e1, _⟩ := paired_at h (List.getElem?_eq_getElem hi)
  exact ⟨b, by rw [← e, e1]⟩
theorem refs_pas {K : PySem.W.Frag} {C : Addr} {H : Hp} {xs : List V} {S : List PasD} (h : Paired (PasAt K C H) xs S) : ∀ y ∈ xs, ∃ t, y = V.ref t := fun y hy => by
  obtain ⟨i, hi, e⟩ := List.mem_iff_getElem.mp hy
  obtain ⟨s, _, b, _, _, e1, _⟩ := paired_at h (List.getElem?_eq_getElem hi)
  exact ⟨b, by rw [← e, e1]⟩
section
variable {K : PySem.W.Frag} {CL CS CT CR CP : Addr} {H H' : Hp} {a th l0 l1 l2 l3 : Addr} {ws : List Str} {r : Nat} {S : List SatD} {T : List StaD} {R : List RecD} {P : List PasD}
theorem Thg.same (h : Thg K CS CT CR CP H th l0 l1 l2 l3 S T R P) (z : Same H H') : Thg K CS CT CR CP H' th l0 l1 l2 l3 S T R P := by
  obtain ⟨x0, a0, b0⟩ := h.sats
  obtain ⟨x1, a1, b1⟩ := h.stas
  obtain ⟨x2, a2, b2⟩ := h.recs
  obtain ⟨x3, a3, b3⟩ := h.pass
  exact ⟨z _ _ h.tup, h.d01, h.d02, h.d03, h.d12, h.d13, h.d23, ⟨x0, z _ _ a0, Paired.mapP b0 fun _ _ y => y.same z⟩, ⟨x1, z _ _ a1, Paired.mapP b1 fun _ _ y => y.same z⟩, ⟨x2, z _ _ a2, Paired.mapP b2 fun _ _ y => y.same z⟩, ⟨x3, z _ _ a3, Paired.mapP b3 fun _ _ y => y.same z⟩⟩
theorem Thg.sx (h : Thg K CS CT CR CP H th l0 l1 l2 l3 S T R P) (hL : LnAt CL H a ws r) (z : SameX a H H') : Thg K CS CT CR CP H' th l0 l1 l2 l3 S T R P := by
  obtain ⟨dx', n', wl', c', g1, g2⟩ := hL.ex
  obtain ⟨x0, a0, b0⟩ := h.sats
  obtain ⟨x1, a1, b1⟩ := h.stas
  obtain ⟨x2, a2, b2⟩ := h.recs
  obtain ⟨x3, a3, b3⟩ := h.pass
  exact ⟨z _ _ (ne_of h.tup g1 (fun z => nomatch z)) h.tup, h.d01, h.d02, h.d03, h.d12, h.d13, h.d23, ⟨x0, z _ _ (ne_of a0 g1 (fun z => nomatch z)) a0, Paired.mapP b0 fun _ _ y => y.sx hL z⟩, ⟨x1, z _ _ (ne_of a1 g1 (fun z => nomatch z)) a1, Paired.mapP b1 fun _ _ y => y.sx hL z⟩,
    ⟨x2, z _ _ (ne_of a2 g1 (fun z => nomatch z)) a2, Paired.mapP b2 fun _ _ y => y.sx hL z⟩, ⟨x3, z _ _ (ne_of a3 g1 (fun z => nomatch z)) a3, Paired.mapP b3 fun _ _ y => y.sx hL z⟩⟩
theorem Thg.push0 {xs : List V} {b : Addr} {s : SatD} (h : Thg K CS CT CR CP H th l0 l1 l2 l3 S T R P) (e : H l0 = some (.lst xs)) (k : SatAt K CS H (.ref b) s) : Thg K CS CT CR CP (L2.upd H l0 (.lst (xs ++ [.ref b]))) th l0 l1 l2 l3 (S ++ [s]) T R P := by
  obtain ⟨x0, a0, b0⟩ := h.sats
  obtain ⟨x1, a1, b1⟩ := h.stas
  obtain ⟨x2, a2, b2⟩ := h.recs
  obtain ⟨x3, a3, b3⟩ := h.pass
  have ex : x0 = xs := HO.lst.inj (Option.some.inj (a0.symm.trans e))
  subst ex
  exact ⟨by rw [upd_ne (ne_of h.tup e (fun z => nomatch z))]; exact h.tup, h.d01, h.d02, h.d03, h.d12, h.d13, h.d23, ⟨_, upd_same, paired_snoc (Paired.mapP b0 fun _ _ y => y.up e) (k.up e)⟩, ⟨x1, by rw [upd_ne h.d01.symm]; exact a1, Paired.mapP b1 fun _ _ y => y.up e⟩,
    ⟨x2, by rw [upd_ne h.d02.symm]; exact a2, Paired.mapP b2 fun _ _ y => y.up e⟩, ⟨x3, by rw [upd_ne h.d03.symm]; exact a3, Paired.mapP b3 fun _ _ y => y.up e⟩⟩
theorem Thg.push1 {xs : List V} {b : Addr} {s : StaD} (h : Thg K CS CT CR CP H th l0 l1 l2 l3 S T R P) (e : H l1 = some (.lst xs)) (k : StaAt CT H (.ref b) s) : Thg K CS CT CR CP (L2.upd H l1 (.lst (xs ++ [.ref b]))) th l0 l1 l2 l3 S (T ++ [s]) R P := by
  obtain ⟨x0, a0, b0⟩ := h.sats
  obtain ⟨x1, a1, b1⟩ := h.stas
  obtain ⟨x2, a2, b2⟩ := h.recs
  obtain ⟨x3, a3, b3⟩ := h.pass
  have ex : x1 = xs := HO.lst.inj (Option.some.inj (a1.symm.trans e))
  subst ex
  exact ⟨by rw [upd_ne (ne_of h.tup e (fun z => nomatch z))]; exact h.tup, h.d01, h.d02, h.d03, h.d12, h.d13, h.d23, ⟨x0, by rw [upd_ne h.d01]; exact a0, Paired.mapP b0 fun _ _ y => y.up e⟩, ⟨_, upd_same, paired_snoc (Paired.mapP b1 fun _ _ y => y.up e) (k.up e)⟩,
    ⟨x2, by rw [upd_ne h.d12.symm]; exact a2, Paired.mapP b2 fun _ _ y => y.up e⟩, ⟨x3, by rw [upd_ne h.d13.symm]; exact a3, Paired.mapP b3 fun _ _ y => y.up e⟩⟩
theorem Thg.push2 {xs : List V} {b : Addr} {s : RecD} (h : Thg K CS CT CR CP H th l0 l1 l2 l3 S T R P) (e : H l2 = some (.lst xs)) (k : RecAt CR H (.ref b) s) : Thg K CS CT CR CP (L2.upd H l2 (.lst (xs ++ [.ref b]))) th l0 l1 l2 l3 S T (R ++ [s]) P := by
  obtain ⟨x0, a0, b0⟩ := h.sats
  obtain ⟨x1, a1, b1⟩ := h.stas
  obtain ⟨x2, a2, b2⟩ := h.recs
  obtain ⟨x3, a3, b3⟩ := h.pass
  have ex : x2 = xs := HO.lst.inj (Option.some.inj (a2.symm.trans e))
  subst ex
  exact ⟨by rw [upd_ne (ne_of h.tup e (fun z => nomatch z))]; exact h.tup, h.d01, h.d02, h.d03, h.d12, h.d13, h.d23, ⟨x0, by rw [upd_ne h.d02]; exact a0, Paired.mapP b0 fun _ _ y => y.up e⟩, ⟨x1, by rw [upd_ne h.d12]; exact a1, Paired.mapP b1 fun _ _ y => y.up e⟩,
    ⟨_, upd_same, paired_snoc (Paired.mapP b2 fun _ _ y => y.up e) (k.up e)⟩, ⟨x3, by rw [upd_ne h.d23.symm]; exact a3, Paired.mapP b3 fun _ _ y => y.up e⟩⟩
theorem Thg.push3 {xs : List V} {b : Addr} {s : PasD} (h : Thg K CS CT CR CP H th l0 l1 l2 l3 S T R P) (e : H l3 = some (.lst xs)) (k : PasAt K CP H (.ref b) s) : Thg K CS CT CR CP (L2.upd H l3 (.lst (xs ++ [.ref b]))) th l0 l1 l2 l3 S T R (P ++ [s]) := by
  obtain ⟨x0, a0, b0⟩ := h.sats
  obtain ⟨x1, a1, b1⟩ := h.stas
  obtain ⟨x2, a2, b2⟩ := h.recs
  obtain ⟨x3, a3, b3⟩ := h.pass
  have ex : x3 = xs := HO.lst.inj (Option.some.inj (a3.symm.trans e))
  subst ex
  exact ⟨by rw [upd_ne (ne_of h.tup e (fun z => nomatch z))]; exact h.tup, h.d01, h.d02, h.d03, h.d12, h.d13, h.d23, ⟨x0, by rw [upd_ne h.d03]; exact a0, Paired.mapP b0 fun _ _ y => y.up e⟩, ⟨x1, by rw [upd_ne h.d13]; exact a1, Paired.mapP b1 fun _ _ y => y.up e⟩,
    ⟨x2, by rw [upd_ne h.d23]; exact a2, Paired.mapP b2 fun _ _ y => y.up e⟩, ⟨_, upd_same, paired_snoc (Paired.mapP b3 fun _ _ y => y.up e) (k.up e)⟩⟩
end
theorem paired_map {α β γ : Type} {F : α → β → Prop} {G : α → γ → Prop} {f : β → γ} (h : ∀ a b, F a b → G a (f b)) : ∀ {xs : List α} {ys : List β}, Paired F xs ys → Paired G xs (ys.map f)
  | _, _, .nil => .nil
  | _, _, .cons a t => .cons (h _ _ a) (paired_map h t)
section
variable {K : PySem.W.Frag} {mg : Str → Option Value} {CL CS CT CR CP CW aS aR fS fT fR fP : Addr} {H : Hp} {th l0 l1 l2 l3 : Addr} {S : List SatD} {T : List StaD} {R : List RecD} {P : List PasD}
theorem Thg.list (h : Thg K CS CT CR CP H th l0 l1 l2 l3 S T R P) : SqT K H th (([l0, l1, l2, l3]).map V.ref) := SqT.of h.tup
theorem Thg.n0 (X : TxtW K mg CL CS CT CR CP CW aS aR fS fT fR fP) (h : Thg K CS CT CR CP H th l0 l1 l2 l3 S T R P) (hl : S.length ≤ 100) : NamesAt K H th 0 (S.map (·.name)) := by
  obtain ⟨xs, a, b⟩ := h.sats
  exact ⟨[l0, l1, l2, l3], l0, xs, h.list, rfl, SqL.of a, paired_map (fun _ _ ⟨b, dx, t, ls, h1, h2, _⟩ => ⟨b, CS, dx, _, h1, h2, X.c_Satellite.cl, X.n_Satellite_name, lk_hit⟩) b, by rw [List.length_map]; exact hl⟩
theorem Thg.n1 (X : TxtW K mg CL CS CT CR CP CW aS aR fS fT fR fP) (h : Thg K CS CT CR CP H th l0 l1 l2 l3 S T R P) (hl : T.length ≤ 100) : NamesAt K H th 1 (T.map (·.name)) := by
  obtain ⟨xs, a, b⟩ := h.stas
  exact ⟨[l0, l1, l2, l3], l1, xs, h.list, rfl, SqL.of a, paired_map (fun _ _ ⟨b, dx, h1, h2⟩ => ⟨b, CT, dx, _, h1, h2, X.c_Station.cl, X.n_Station_name, lk_hit⟩) b, by rw [List.length_map]; exact hl⟩
theorem Thg.n2 (X : TxtW K mg CL CS CT CR CP CW aS aR fS fT fR fP) (h : Thg K CS CT CR CP H th l0 l1 l2 l3 S T R P) (hl : R.length ≤ 100) : NamesAt K H th 2 (R.map (·.name)) := by
  obtain ⟨xs, a, b⟩ := h.recs
  exact ⟨[l0, l1, l2, l3], l2, xs, h.list, rfl, SqL.of a, paired_map (fun _ _ ⟨b, dx, h1, h2⟩ => ⟨b, CR, dx, _, h1, h2, X.c_Recording.cl, X.n_Recording_name, lk_hit⟩) b, by rw [List.length_map]; exact hl⟩
theorem Thg.n3 (X : TxtW K mg CL CS CT CR CP CW aS aR fS fT fR fP) (h : Thg K CS CT CR CP H th l0 l1 l2 l3 S T R P) (hl : P.length ≤ 100) : NamesAt K H th 3 (P.map (·.name)) := by
  obtain ⟨xs, a, b⟩ := h.pass
  exact ⟨[l0, l1, l2, l3], l3, xs, h.list, rfl, SqL.of a, paired_map (fun _ _ ⟨b, dx, t, h1, h2, _⟩ => ⟨b, CP, dx, _, h1, h2, X.c_Pass.cl, X.n_Pass_name, lk_hit⟩) b, by rw [List.length_map]; exact hl⟩
end
end DP
namespace DP
open PySem PySem.Spec PyProof.Rows L2
/-- what is read ahead of the i-th line behind the first one -/
def preS (W : WorldD) (i : Nat) : List SatD := W.sats.take i
def preT (W : WorldD) (i : Nat) : List StaD := W.stas.take (i - W.sats.length)
def preR (W : WorldD) (i : Nat) : List RecD := W.recs.take (i - W.sats.length - W.stas.length)
def preP (W : WorldD) (i : Nat) : List PasD := W.pass.take (i - W.sats.length - W.stas.length - W.recs.length)
/-- the lines behind the first one -/
def restW (W : WorldD) : List (List Str) := W.sats.map wSat ++ W.stas.map wSta ++ W.recs.map (wRec W) ++ W.pass.map (wPas W)
/-- the sort of the i-th -/
def kindW (W : WorldD) (i : Nat) : Nat := if i < W.sats.length then 0 else if i < W.sats.length + W.stas.length then 1 else if i < W.sats.length + W.stas.length + W.recs.length then 2 else 3
theorem restW_len (W : WorldD) : (restW W).length = W.sats.length + W.stas.length + W.recs.length + W.pass.length := by
  unfold restW
  rw [List.length_append, List.length_append, List.length_append, List.length_map, List.length_map, List.length_map, List.length_map]
theorem take_snoc {α : Type} {l : List α} {i : Nat} {x : α} (h : l[i]? = some x) : l.take (i + 1) = l.take i ++ [x] := by
  rw [List.take_add_one, h]
  rfl
theorem sub_lo {i a : Nat} (h : i < a) : i + 1 - a = i - a := by rw [Nat.sub_eq_zero_of_le h, Nat.sub_eq_zero_of_le (Nat.le_of_lt h)]
theorem sub_hi {i a : Nat} (h : ¬ i < a) : i + 1 - a = i - a + 1 := Nat.succ_sub (Nat.not_lt.mp h)
theorem sub_in {i a b : Nat} (h : ¬ i < a) : i - a < b ↔ i < a + b := Nat.sub_lt_iff_lt_add' (Nat.not_lt.mp h)
/-- the i-th line, by its sort -/
theorem restW_at (W : WorldD) {i : Nat} (hi : i < (restW W).length) :
    (∃ s, kindW W i = 0 ∧ s ∈ W.sats ∧ (restW W)[i]? = some (wSat s) ∧ W.sats[i]? = some s ∧ preS W (i + 1) = preS W i ++ [s] ∧ preT W (i + 1) = preT W i ∧ preR W (i + 1) = preR W i ∧ preP W (i + 1) = preP W i) ∨
    (∃ s, kindW W i = 1 ∧ s ∈ W.stas ∧ (restW W)[i]? = some (wSta s) ∧ W.stas[i - W.sats.length]? = some s ∧ preS W (i + 1) = preS W i ∧ preT W (i + 1) = preT W i ++ [s] ∧ preR W (i + 1) = preR W i ∧ preP W (i + 1) = preP W i ∧ preS W i = W.sats) ∨
    (∃ s, kindW W i = 2 ∧ s ∈ W.recs ∧ (restW W)[i]? = some (wRec W s) ∧ W.recs[i - W.sats.length - W.stas.length]? = some s ∧ preS W (i + 1) = preS W i ∧ preT W (i + 1) = preT W i ∧ preR W (i + 1) = preR W i ++ [s] ∧ preP W (i + 1) = preP W i ∧ preS W i = W.sats ∧ preT W i = W.stas) ∨
    (∃ s, kindW W i = 3 ∧ s ∈ W.pass ∧ (restW W)[i]? = some (wPas W s) ∧ W.pass[i - W.sats.length - W.stas.length - W.recs.length]? = some s ∧ preS W (i + 1) = preS W i ∧ preT W (i + 1) = preT W i ∧ preR W (i + 1) = preR W i ∧ preP W (i + 1) = preP W i ++ [s] ∧ preS W i = W.sats ∧ preT W i = W.stas) := by
  rw [restW_len] at hi
  by_cases c0 : i < W.sats.length
  · have e : W.sats[i]? = some W.sats[i] := List.getElem?_eq_getElem c0
    refine .inl ⟨W.sats[i], by unfold kindW; rw [if_pos c0], List.getElem_mem c0, ?_, e, take_snoc e, ?_, ?_, ?_⟩
    · unfold restW
      rw [List.append_assoc, List.append_assoc, List.getElem?_append_left (by rw [List.length_map]; exact c0), List.getElem?_map, e]
      rfl
    · unfold preT; rw [sub_lo c0]
    · unfold preR; rw [sub_lo c0]
    · unfold preP; rw [sub_lo c0]
  have aS : ∀ j, W.sats.length ≤ j → preS W j = W.sats := fun j hj => List.take_of_length_le hj
  have d0 := Nat.not_lt.mp c0
  have e0 := Nat.le_succ_of_le d0
  by_cases c1 : i < W.sats.length + W.stas.length
  · have hj : i - W.sats.length < W.stas.length := (sub_in c0).mpr c1
    have e : W.stas[i - W.sats.length]? = some W.stas[i - W.sats.length] := List.getElem?_eq_getElem hj
    refine .inr (.inl ⟨_, by unfold kindW; rw [if_neg c0, if_pos c1], List.getElem_mem hj, ?_, e, by rw [aS _ e0, aS _ d0], ?_, ?_, ?_, aS _ d0⟩)
    · unfold restW
      rw [List.append_assoc, List.append_assoc, List.getElem?_append_right (by rw [List.length_map]; exact d0), List.length_map, List.getElem?_append_left (by rw [List.length_map]; exact hj), List.getElem?_map, e]
      rfl
    · unfold preT; rw [sub_hi c0]; exact take_snoc e
    · unfold preR; rw [sub_hi c0, sub_lo hj]
    · unfold preP; rw [sub_hi c0, sub_lo hj]
  have aT : ∀ j, W.sats.length + W.stas.length ≤ j → preT W j = W.stas := fun j hj => List.take_of_length_le (Nat.le_sub_of_add_le' hj)
  have n1 : ¬ i - W.sats.length < W.stas.length := fun z => c1 ((sub_in c0).mp z)
  have d1 := Nat.not_lt.mp c1
  have e1 := Nat.le_succ_of_le d1
  have d2 := Nat.not_lt.mp n1
  by_cases c2 : i < W.sats.length + W.stas.length + W.recs.length
  · have hj : i - W.sats.length - W.stas.length < W.recs.length := (sub_in n1).mpr ((sub_in c0).mpr (by rw [← Nat.add_assoc]; exact c2))
    have e : W.recs[i - W.sats.length - W.stas.length]? = some W.recs[i - W.sats.length - W.stas.length] := List.getElem?_eq_getElem hj
    refine .inr (.inr (.inl ⟨_, by unfold kindW; rw [if_neg c0, if_neg c1, if_pos c2], List.getElem_mem hj, ?_, e, by rw [aS _ e0, aS _ d0], by rw [aT _ e1, aT _ d1], ?_, ?_, aS _ d0, aT _ d1⟩))
    · unfold restW
      rw [List.append_assoc, List.append_assoc, List.getElem?_append_right (by rw [List.length_map]; exact d0), List.length_map, List.getElem?_append_right (by rw [List.length_map]; exact d2), List.length_map, List.getElem?_append_left (by rw [List.length_map]; exact hj), List.getElem?_map, e]
      rfl
    · unfold preR; rw [sub_hi c0, sub_hi n1]; exact take_snoc e
    · unfold preP; rw [sub_hi c0, sub_hi n1, sub_lo hj]
  have n2 : ¬ i - W.sats.length - W.stas.length < W.recs.length := fun z => c2 (by rw [Nat.add_assoc]; exact (sub_in c0).mp ((sub_in n1).mp z))
  have d3 := Nat.not_lt.mp n2
  have d4 := Nat.not_lt.mp c2
  have e4 := Nat.le_succ_of_le d4
  have hj : i - W.sats.length - W.stas.length - W.recs.length < W.pass.length := (sub_in n2).mpr ((sub_in n1).mpr ((sub_in c0).mpr (by rw [← Nat.add_assoc, ← Nat.add_assoc]; exact hi)))
  have e : W.pass[i - W.sats.length - W.stas.length - W.recs.length]? = some W.pass[i - W.sats.length - W.stas.length - W.recs.length] := List.getElem?_eq_getElem hj
  have aR : ∀ j, W.sats.length + W.stas.length + W.recs.length ≤ j → preR W j = W.recs := fun j hj => List.take_of_length_le (Nat.le_sub_of_add_le' (Nat.le_sub_of_add_le' (by rw [← Nat.add_assoc]; exact hj)))
  refine .inr (.inr (.inr ⟨_, by unfold kindW; rw [if_neg c0, if_neg c1, if_neg c2], List.getElem_mem hj, ?_, e, by rw [aS _ e0, aS _ d0], by rw [aT _ e1, aT _ d1], by rw [aR _ e4, aR _ d4], ?_, aS _ d0, aT _ d1⟩))
  · unfold restW
    rw [List.append_assoc, List.append_assoc, List.getElem?_append_right (by rw [List.length_map]; exact d0), List.length_map, List.getElem?_append_right (by rw [List.length_map]; exact d2), List.length_map, List.getElem?_append_right (by rw [List.length_map]; exact d3), List.length_map, List.getElem?_map, e]
    rfl
  · unfold preP; rw [sub_hi c0, sub_hi n1, sub_hi n2]; exact take_snoc e
theorem kindW_mono (W : WorldD) (i : Nat) : kindW W i ≤ kindW W (i + 1) := by
  unfold kindW
  by_cases c0 : i < W.sats.length
  · rw [if_pos c0]; exact Nat.zero_le _
  rw [if_neg c0, if_neg (show ¬ i + 1 < W.sats.length by omega)]
  by_cases c1 : i < W.sats.length + W.stas.length
  · rw [if_pos c1]
    split
    · exact Nat.le_refl _
    · split <;> omega
  rw [if_neg c1, if_neg (show ¬ i + 1 < W.sats.length + W.stas.length by omega)]
  by_cases c2 : i < W.sats.length + W.stas.length + W.recs.length
  · rw [if_pos c2]
    split <;> omega
  · rw [if_neg c2, if_neg (show ¬ i + 1 < W.sats.length + W.stas.length + W.recs.length by omega)]
    exact Nat.le_refl _
/-- a name is not among those ahead of it -/
theorem fresh_name {α : Type} {f : α → Str} {l : List α} {i : Nat} {s : α} (hd : (l.map f).Nodup) (h : l[i]? = some s) : f s ∉ (l.take i).map f := fun z => by
  obtain ⟨t, ht, e⟩ := List.mem_map.mp z
  obtain ⟨j, hj, ej⟩ := List.mem_iff_getElem.mp ht
  rw [List.getElem_take] at ej
  rw [List.length_take] at hj
  obtain ⟨hi, es⟩ := List.getElem?_eq_some_iff.mp h
  have h1 : (l.map f)[j]'(by rw [List.length_map]; omega) = (l.map f)[i]'(by rw [List.length_map]; exact hi) := by
    rw [List.getElem_map, List.getElem_map, ej, es]
    exact e
  have := (List.getElem_inj hd).mp h1
  omega
def sortsL : List Str := ["satellite", "station", "recording", "pass"]
section
variable {P : Program} {w : World} {K : PySem.W.Frag} {mg : Str → Option Value} {base : Heap} {CL CS CT CR CP CW aS aR fS fT fR fP : Addr}
def mostK : List Int := [3, 3, 10, 10]
def spMost : Sp := fun vs H Q _ => ∃ (i : Nat) (m : Int), vs = [.int (i : Int)] ∧ mostK[i]? = some m ∧ ∀ H', Same H H' → Q (.int m) H'
theorem d_most_things (T : TxtW K mg CL CS CT CR CP CW aS aR fS fT fR fP) (A : At K mg "most_things" s_most_things ["sort"]) : DefOk P w K mg base CX0 1 "most_things" ["sort"] spMost := by
  have B := T.L.B
  refine A.ok sc_most_things (fun vs H Q E h => ?_) (fun f cdv A outer s H vs Q E hr h => ?_)
  · obtain ⟨i, m, rfl, _⟩ := h
    rfl
  obtain ⟨i, m, rfl, hi, q⟩ := h
  refine ⟨_, pss_cons (ps_set (i := 1) sc_most_things.nd rfl (Or.inl rfl) (pe_tup (pa_cons (ClX.pe_cval (pe_ga T.c_World.gC) rfl) (pa_cons (ClX.pe_cval (pe_ga T.c_World.gC) rfl) (pa_cons (ClX.pe_cval (pe_ga T.c_World.gC) rfl) (pa_cons (ClX.pe_cval (pe_ga T.c_World.gC) rfl) pa_nil))))))
  (pss_one (ps_ret (pe_ix ix_tup (pv 1) (pv 0) (fun _ _ => rfl))))
    , ?_⟩
  obtain ⟨k1, h1⟩ := T.v_MOST_SATELLITES
  obtain ⟨k2, h2⟩ := T.v_MOST_STATIONS
  obtain ⟨k3, h3⟩ := T.v_MOST_RECORDINGS
  obtain ⟨k4, h4⟩ := T.v_MOST_PASSES
  refine ⟨CW, _, _, _, rfl, T.rdW, h1, CW, _, _, _, rfl, T.rdW, h2, CW, _, _, _, rfl, T.rdW, h3, CW, _, _, _, rfl, T.rdW, h4, (by show 4 ≤ sizeLine; decide), fun p hp => ?_⟩
  refine ⟨_, rfl, _, rfl, p, _, _, .int m, rfl, rfl, SqT.of upd_same, atI_nat ?_, q _ (same_new hp _)⟩
  have e : ([V.int 3, V.int 3, V.int 10, V.int 10] : List V) = mostK.map V.int := rfl
  rw [e, List.getElem?_map, hi]
  rfl
def spSort (K : PySem.W.Frag) (CL : Addr) : Sp := fun vs H Q _ => ∃ (a : Addr) (ws : List Str) (ahead : Int) (th : Addr) (ls : List Addr) (l : Addr) (xs : List V) (i : Nat) (u : Str) (m : Int), vs = [.ref a, .int ahead, .ref th] ∧ LnAt CL H a ws 0 ∧ ws[0]? = some u ∧ sortsL[i]? = some u ∧ ahead ≤ (i : Int) ∧
  SqT K H th (ls.map V.ref) ∧ ls[i]? = some l ∧ SqL K H l xs ∧ mostK[i]? = some m ∧ (xs.length : Int) < m ∧ ∀ H', SameX a H H' → LnAt CL H' a ws 1 → Q (.int (i : Int)) H'
theorem sorts_first {u : Str} : ∀ {i : Nat}, sortsL[i]? = some u → ∀ m, m < i → sortsL[m]? ≠ some u := by
  have nd : sortsL.Nodup := by decide +kernel
  intro i h m hm z
  obtain ⟨h1, e1⟩ := List.getElem?_eq_some_iff.mp h
  obtain ⟨h2, e2⟩ := List.getElem?_eq_some_iff.mp z
  have := (List.getElem_inj nd).mp (e1.trans e2.symm)
  omega
theorem d_read_sort (T : TxtW K mg CL CS CT CR CP CW aS aR fS fT fR fP) (D_Line_due : MDef P w K mg base CX0 2 CL "due" ["self"] [] (spDue CL)) (D_Line_step : MDef P w K mg base CX0 1 CL "step" ["self"] [] (spStep CL)) (D_most_things : DefOk P w K mg base CX0 1 "most_things" ["sort"] spMost)
    (A : At K mg "read_sort" s_read_sort ["line", "ahead", "things"]) : DefOk P w K mg base CX0 3 "read_sort" ["line", "ahead", "things"] (spSort K CL) := by
  have B := T.L.B
  refine A.ok sc_read_sort (fun vs H Q E h => ?_) (fun f cdv A outer s H vs Q E hr h => ?_)
  · obtain ⟨a, ws, ahead, th, ls, l, xs, i, u, m, rfl, _⟩ := h
    rfl
  obtain ⟨a, ws, ahead, th, ls, l, xs, i, u, m, rfl, hL, hu, hi, hah, h1, h2, h3, h4, h5, q⟩ := h
  refine ⟨_, pss_cons (ps_set (i := 3) sc_read_sort.nd rfl (Or.inl rfl) (pe_m0 D_Line_due T.c_Line.cl (hr.mono (by omega)) pass0 (pv 0)))
  (pss_cons (ps_if (pt_cmpR op_notIn_seq (pv 3) (pe_ga T.g_SORTS) (by rfl))
      (pss_one (ps_never))
      (pss_nil))
  (pss_cons (ps_set (i := 4) sc_read_sort.nd rfl (Or.inl rfl) (pe_bm PySem.F.plainAttrs_tuple PySem.F.slot_tuple_index PySem.F.type_tuple_index mt_tup_index (pe_ga T.g_SORTS) (pa_cons (pv 3) pa_nil)))
  (pss_cons (ps_if (pt_cmpR op_lt (pv 4) (pv 1) (nomark _))
      (pss_one (ps_never))
      (pss_nil))
  (pss_cons (ps_if (pt_cmpR op_eq (pe_callB (call_len_seq) (by rfl) B.len (by decide +kernel) (pa_cons (pe_ix ix_tup (pv 2) (pv 4) (fun _ _ => rfl)) pa_nil)) (pe_f D_most_things (hr.mono (by omega)) pass0 (pa_cons (pv 4) pa_nil)) (nomark _))
      (pss_one (ps_never))
      (pss_nil))
  (pss_cons (ps_expr (pe_m0 D_Line_step T.c_Line.cl (hr.mono (by omega)) pass0 (pv 0)))
  (pss_one (ps_ret (pv 4))))))))
    , ?_⟩
  have hm : u ∈ sortsL := List.mem_of_getElem? hi
  have hr' : 0 < ws.length := (List.getElem?_eq_some_iff.mp hu).1
  obtain ⟨dx, fs, g0, z0⟩ := LnAt.no hL (m := "due") (by decide +kernel) (by decide +kernel) (by decide +kernel) (by decide +kernel)
  refine ⟨_, rfl, a, _, _, rfl, g0, z0, a, ws, 0, u, rfl, hL, hu, ?_⟩
  refine ⟨_, rfl, aS, _, rfl, .inr (T.t_SORTS H), rfl, flat_strs, _, rfl, iteF' (by rw [show (([("satellite" : Str), "station", "recording", "pass"]).map V.str) = sortsL.map V.str from rfl, inV_str, decide_eq_true hm]; rfl) ?_⟩
  obtain ⟨o, ho1, ho2, ho3⟩ := T.k_SORTS
  refine ⟨.inr (.inl ⟨rfl, o, ho1, ho2, ho3⟩), _, rfl, aS, sortsL, u, i, rfl, rfl, T.t_SORTS H, hi, sorts_first hi, ?_⟩
  refine ⟨_, rfl, _, rfl, _, _, rfl, rfl, _, rfl, iteF' (decide_eq_false (by omega)) ?_⟩
  refine ⟨_, rfl, _, rfl, th, _, _, .ref l, rfl, rfl, h1, atI_nat (by rw [List.getElem?_map, h2]; rfl), l, xs, rfl, .inl h3, _, rfl, i, m, rfl, h4, fun H1 s1 => ?_⟩
  refine ⟨rfl, _, rfl, iteF' (decide_eq_false fun z => by have := V.int.inj z; omega) ?_⟩
  obtain ⟨dx, fs, g1, z1⟩ := LnAt.no (hL.same s1) (m := "step") (by decide +kernel) (by decide +kernel) (by decide +kernel) (by decide +kernel)
  refine ⟨_, rfl, a, _, _, rfl, g1, z1, a, ws, 0, rfl, hL.same s1, hr', fun H2 s2 L2 => ?_⟩
  exact ⟨_, rfl, q H2 ((SameX.of s1).trans s2) L2⟩
end
end DP
namespace DP
open PySem PySem.Spec PyProof.Rows L2
def SameA (as : List Addr) (H H' : Hp) : Prop := ∀ b o, b ∉ as → H b = some o → H' b = some o
theorem SameA.trans {as : List Addr} {H H1 H2 : Hp} (x : SameA as H H1) (y : SameA as H1 H2) : SameA as H H2 := fun b o n h => y b o n (x b o n h)
theorem SameA.of {as : List Addr} {H H' : Hp} (s : Same H H') : SameA as H H' := fun b o _ h => s b o h
theorem SameA.ofX {as : List Addr} {a : Addr} {H H' : Hp} (s : SameX a H H') (h : a ∈ as) : SameA as H H' := fun b o n q => s b o (fun z => n (z ▸ h)) q
theorem SameA.new {as : List Addr} {H H' : Hp} {L : Addr} {o : HO} (hL : H L = none) (s : SameA as H H') : SameA as H (upd H' L o) := fun b u n h => by
  rw [upd_ne (ne_of_none h hL)]
  exact s b u n h
theorem at_ne {K : PySem.W.Frag} {mg : Str → Option Value} {x y : Str} {st st' : Stmt} {ps ps' : List Str} {f g : Addr} (A : At K mg x st ps) (B : At K mg y st' ps') (hf : mg x = some (.ref f)) (hg : mg y = some (.ref g)) (n : x ≠ y) : f ≠ g := fun z => by
  obtain ⟨f', fd, F, e1, _⟩ := A.ex
  obtain ⟨g', gd, G, e2, _⟩ := B.ex
  rw [hf] at e1
  rw [hg] at e2
  cases e1
  cases e2
  obtain ⟨_, _, _, _, _, _, _, _, _, e3, l1, _⟩ := F.ex
  obtain ⟨_, _, _, _, _, _, _, _, _, e4, l2, _⟩ := G.ex
  rw [← z, l1] at l2
  have e : fd = gd := by
    injection Option.some.inj l2 with _ _ h _
    injection h
  have e5 := congrArg FuncData.name (e3.symm.trans (e.trans e4))
  exact n e5
section
variable {P : Program} {w : World} {K : PySem.W.Frag} {mg : Str → Option Value} {base : Heap} {CL CS CT CR CP CW aS aR fS fT fR fP : Addr}
def rdS (K : PySem.W.Frag) (CL CS CT CR CP fS fT fR fP : Addr) (f : Addr) : Option Sp := if f = fS then some (spRdSat K CL CS) else if f = fT then some (spRdSta K CL CT) else if f = fR then some (spRdRec K CL CR) else if f = fP then some (spRdPas K CL CP) else none
theorem held_of {x : Str} {ps : List Str} {sp : Sp} {k : Nat} {f : Addr} (D : DefOk P w K mg base CX0 k x ps sp) (h : mg x = some (.ref f)) : Held P w K mg base k f sp := by
  obtain ⟨g, fd, G, m, kp, b, _⟩ := D.ex
  rw [h] at m
  cases m
  exact ⟨fd, ps, G, kp, b⟩
def spThings (K : PySem.W.Frag) (CL CS CT CR CP : Addr) : Sp := fun vs H Q _ => ∃ (p : Addr) (as : List Addr) (W : WorldD), vs = [.ref p, .int W.horizon] ∧ SqL K H p (as.map V.ref) ∧ as.Nodup ∧ WorldOk W ∧ Paired (fun a l => LnAt CL H a l 0) as (restW W) ∧
  ∀ th l0 l1 l2 l3 H', SameA as H H' → Thg K CS CT CR CP H' th l0 l1 l2 l3 W.sats W.stas W.recs W.pass → Q (.ref th) H'
set_option maxHeartbeats 8000000 in
theorem d_read_things (T : TxtW K mg CL CS CT CR CP CW aS aR fS fT fR fP) (D_read_sort : DefOk P w K mg base CX0 3 "read_sort" ["line", "ahead", "things"] (spSort K CL))
    (D1 : DefOk P w K mg base CX0 5 "read_satellite" ["line", "horizon", "things"] (spRdSat K CL CS)) (D2 : DefOk P w K mg base CX0 5 "read_station" ["line", "_", "things"] (spRdSta K CL CT))
    (D3 : DefOk P w K mg base CX0 5 "read_recording" ["line", "horizon", "things"] (spRdRec K CL CR)) (D4 : DefOk P w K mg base CX0 5 "read_pass" ["line", "horizon", "things"] (spRdPas K CL CP))
    (n1 : fT ≠ fS) (n2 : fR ≠ fS) (n3 : fR ≠ fT) (n4 : fP ≠ fS) (n5 : fP ≠ fT) (n6 : fP ≠ fR)
    (D_Line_finish : MDef P w K mg base CX0 3 CL "finish" ["self"] [] (spFinish CL)) (A : At K mg "read_things" s_read_things ["lines", "horizon"]) : DefOk P w K mg base CX0 6 "read_things" ["lines", "horizon"] (spThings K CL CS CT CR CP) := by
  have B := T.L.B
  have HA : ∀ f sp, rdS K CL CS CT CR CP fS fT fR fP f = some sp → Held P w K mg base 5 f sp := fun f sp h => by
    unfold rdS at h
    by_cases c1 : f = fS
    · rw [if_pos c1] at h
      cases h
      rw [c1]
      exact held_of D1 T.r_satellite
    rw [if_neg c1] at h
    by_cases c2 : f = fT
    · rw [if_pos c2] at h
      cases h
      rw [c2]
      exact held_of D2 T.r_station
    rw [if_neg c2] at h
    by_cases c3 : f = fR
    · rw [if_pos c3] at h
      cases h
      rw [c3]
      exact held_of D3 T.r_recording
    rw [if_neg c3] at h
    by_cases c4 : f = fP
    · rw [if_pos c4] at h
      cases h
      rw [c4]
      exact held_of D4 T.r_pass
    rw [if_neg c4] at h
    cases h
  have S0 : rdS K CL CS CT CR CP fS fT fR fP fS = some (spRdSat K CL CS) := by unfold rdS; rw [if_pos rfl]
  have S1 : rdS K CL CS CT CR CP fS fT fR fP fT = some (spRdSta K CL CT) := by unfold rdS; rw [if_neg n1, if_pos rfl]
  have S2 : rdS K CL CS CT CR CP fS fT fR fP fR = some (spRdRec K CL CR) := by unfold rdS; rw [if_neg n2, if_neg n3, if_pos rfl]
  have S3 : rdS K CL CS CT CR CP fS fT fR fP fP = some (spRdPas K CL CP) := by unfold rdS; rw [if_neg n4, if_neg n5, if_neg n6, if_pos rfl]
  refine A.ok sc_read_things (fun vs H Q E h => ?_) (fun f cdv A outer s H vs Q E hr h => ?_)
  · obtain ⟨p, as, W, rfl, _⟩ := h
    rfl
  obtain ⟨p, as, W, rfl, hp, hnd, wok, hpr, q⟩ := h
  have hlen := paired_len hpr
  refine ⟨_, pss_cons (ps_set (i := 2) sc_read_things.nd rfl (Or.inl rfl) (pe_tup (pa_cons (pe_lst pa_nil) (pa_cons (pe_lst pa_nil) (pa_cons (pe_lst pa_nil) (pa_cons (pe_lst pa_nil) pa_nil))))))
  (pss_cons (ps_set (i := 3) sc_read_things.nd rfl (Or.inl rfl) pe_int)
  (pss_cons (ps_for PassesOwn.never rfl (pi_list (pv 0)) (pg_name (i := 4) sc_read_things.nd rfl (Or.inl rfl))
      (pss_cons (ps_set (i := 3) sc_read_things.nd rfl (Or.inl rfl) (pe_f D_read_sort (hr.mono (by omega)) pass0 (pa_cons (pv 4) (pa_cons (pv 3) (pa_cons (pv 2) pa_nil)))))
      (pss_cons (ps_set (i := 5) sc_read_things.nd rfl (Or.inl rfl) (pe_ix ix_tup (pe_ga T.g_READERS) (pv 3) (fun _ _ => rfl)))
      (pss_cons (ps_expr (pe_bm PySem.F.plainAttrs_list PySem.F.slot_list_append PySem.F.type_list_append mt_append (pe_ix ix_tup (pv 2) (pv 3) (fun _ _ => rfl)) (pa_cons (pe_callA (i := 5) (S := rdS K CL CS CT CR CP fS fT fR fP) HA (hr.mono (by omega)) rfl (Or.inl rfl) (pa_cons (pv 4) (pa_cons (pv 1) (pa_cons (pv 2) pa_nil)))) pa_nil)))
      (pss_one (ps_expr (pe_m0 D_Line_finish T.c_Line.cl (hr.mono (by omega)) pass0 (pv 4))))))))
  (pss_one (ps_ret (pv 2)))))
    , ?_⟩
  refine ⟨Nat.zero_le _, fun l0 h0 => ⟨Nat.zero_le _, fun l1 h1 => ⟨Nat.zero_le _, fun l2 h2 => ⟨Nat.zero_le _, fun l3 h3 => ⟨(by show 4 ≤ sizeLine; decide), fun th hth => ?_⟩⟩⟩⟩⟩
  have d01 : l0 ≠ l1 := fun z => by rw [← z, upd_same] at h1; cases h1
  have h1' : H l1 = none := by rw [upd_ne d01.symm] at h1; exact h1
  have d12 : l1 ≠ l2 := fun z => by rw [← z, upd_same] at h2; cases h2
  have d02 : l0 ≠ l2 := fun z => by rw [← z, upd_ne d01, upd_same] at h2; cases h2
  have h2' : H l2 = none := by rw [upd_ne d12.symm, upd_ne d02.symm] at h2; exact h2
  have d23 : l2 ≠ l3 := fun z => by rw [← z, upd_same] at h3; cases h3
  have d13 : l1 ≠ l3 := fun z => by rw [← z, upd_ne d12, upd_same] at h3; cases h3
  have d03 : l0 ≠ l3 := fun z => by rw [← z, upd_ne d02, upd_ne d01, upd_same] at h3; cases h3
  have h3' : H l3 = none := by rw [upd_ne d23.symm, upd_ne d13.symm, upd_ne d03.symm] at h3; exact h3
  have t3 : l3 ≠ th := fun z => by rw [← z, upd_same] at hth; cases hth
  have t2 : l2 ≠ th := fun z => by rw [← z, upd_ne d23, upd_same] at hth; cases hth
  have t1 : l1 ≠ th := fun z => by rw [← z, upd_ne d13, upd_ne d12, upd_same] at hth; cases hth
  have t0 : l0 ≠ th := fun z => by rw [← z, upd_ne d03, upd_ne d02, upd_ne d01, upd_same] at hth; cases hth
  have hth' : H th = none := by rw [upd_ne t3.symm, upd_ne t2.symm, upd_ne t1.symm, upd_ne t0.symm] at hth; exact hth
  have sS : Same H (upd (upd (upd (upd (upd H l0 (.lst [])) l1 (.lst [])) l2 (.lst [])) l3 (.lst [])) th (.tup [.ref l0, .ref l1, .ref l2, .ref l3])) := same_at hth' (same_at h3' (same_at h2' (same_at h1' (same_new h0 _) _) _) _) _
  refine ⟨_, rfl, p, rfl, ⟨_, sS.seq hp⟩, for_list (K := K) (a := p) (xs := as.map V.ref) (fun i σ H' => ∃ (k : Int) (y4 y5 : Option V), σ = [some (.ref p), some (.int W.horizon), some (.ref th), some (.int k), y4, y5] ∧ k ≤ (kindW W i : Int) ∧
      Thg K CS CT CR CP H' th l0 l1 l2 l3 (preS W i) (preT W i) (preR W i) (preP W i) ∧ (∀ j a l, i ≤ j → as[j]? = some a → (restW W)[j]? = some l → LnAt CL H' a l 0) ∧ SameA as H H') ⟨0, none, none, rfl, by omega, ?_, ?_, SameA.of sS⟩ (fun i σ H' _ hI => ?_) (fun i x σ H1 hx hI => ?_) (fun σ H1 hI => ?_)⟩
  · have e0 : preS W 0 = [] := rfl
    have e1 : preT W 0 = [] := by unfold preT; rw [Nat.zero_sub]; rfl
    have e2 : preR W 0 = [] := by unfold preR; rw [Nat.zero_sub, Nat.zero_sub]; rfl
    have e3 : preP W 0 = [] := by unfold preP; rw [Nat.zero_sub, Nat.zero_sub, Nat.zero_sub]; rfl
    rw [e0, e1, e2, e3]
    exact ⟨upd_same, d01, d02, d03, d12, d13, d23, ⟨[], by rw [upd_ne t0, upd_ne d03, upd_ne d02, upd_ne d01, upd_same], .nil⟩, ⟨[], by rw [upd_ne t1, upd_ne d13, upd_ne d12, upd_same], .nil⟩, ⟨[], by rw [upd_ne t2, upd_ne d23, upd_same], .nil⟩, ⟨[], by rw [upd_ne t3, upd_same], .nil⟩⟩
  · intro j a l _ ha hl
    obtain ⟨l', hl', hL⟩ := paired_at hpr ha
    rw [hl] at hl'
    cases hl'
    exact hL.same sS
  · obtain ⟨k, y4, y5, rfl, _, _, _, hs⟩ := hI
    rcases hp with (hp | ⟨o, hp⟩) | hp
    · exact .inl (.inl (hs _ _ (fun z => by
        obtain ⟨j, hj, ej⟩ := List.mem_iff_getElem.mp z
        obtain ⟨l, _, hL⟩ := paired_at hpr (List.getElem?_eq_getElem hj)
        rw [ej] at hL
        obtain ⟨dx, n, wl, c, g1, g2⟩ := hL.ex
        rw [hp] at g1
        cases g1) hp))
    · exact .inl (.inr ⟨o, hs _ _ (fun z => by
        obtain ⟨j, hj, ej⟩ := List.mem_iff_getElem.mp z
        obtain ⟨l, _, hL⟩ := paired_at hpr (List.getElem?_eq_getElem hj)
        rw [ej] at hL
        obtain ⟨dx, n, wl, c, g1, g2⟩ := hL.ex
        rw [hp] at g1
        cases g1) hp⟩)
    · exact .inr hp
  · obtain ⟨k, y4, y5, rfl, hk, hT, hLs, hs⟩ := hI
    rw [List.getElem?_map] at hx
    cases ha : as[i]? with
    | none => rw [ha] at hx; cases hx
    | some a =>
    rw [ha] at hx
    have ex : V.ref a = x := Option.some.inj hx
    subst ex
    have hmem : a ∈ as := List.mem_of_getElem? ha
    have hi : i < (restW W).length := by
      rw [← hlen]
      exact (List.getElem?_eq_some_iff.mp ha).1
    have far : ∀ j b, i + 1 ≤ j → as[j]? = some b → b ≠ a := fun j b hj hb z => by
      subst z
      obtain ⟨q1, e1⟩ := List.getElem?_eq_some_iff.mp ha
      obtain ⟨q2, e2⟩ := List.getElem?_eq_some_iff.mp hb
      have := (List.getElem_inj hnd).mp (e1.trans e2.symm)
      omega
    have neR : ∀ j l, (restW W)[j]? = some l → l ≠ [] := fun j l hl => by
      have hm : l ∈ restW W := List.mem_of_getElem? hl
      exact (linesW_ok wok l (List.mem_cons_of_mem _ hm)).1
    have nS := wok.nSats
    have nT := wok.nStas
    have nR := wok.nRecs
    have nP := wok.nPass
    have lS : (preS W i).length ≤ W.sats.length := by unfold preS; rw [List.length_take]; omega
    have lT : (preT W i).length ≤ W.stas.length := by unfold preT; rw [List.length_take]; omega
    have lR : (preR W i).length ≤ W.recs.length := by unfold preR; rw [List.length_take]; omega
    have lP : (preP W i).length ≤ W.pass.length := by unfold preP; rw [List.length_take]; omega
    have km := kindW_mono W i
    rcases restW_at W hi with ⟨s, hkd, hsm, hw, hat, e1, e2, e3, e4⟩ | ⟨s, hkd, hsm, hw, hat, e1, e2, e3, e4, eS⟩ | ⟨s, hkd, hsm, hw, hat, e1, e2, e3, e4, eS, eT⟩ | ⟨s, hkd, hsm, hw, hat, e1, e2, e3, e4, eS, eT⟩
    · have hL := hLs i a _ (Nat.le_refl _) ha hw
      obtain ⟨xs, ax, bx⟩ := hT.sats
      have lx := paired_len bx
      have hlt : (preS W i).length < W.sats.length := by
        have z := (List.getElem?_eq_some_iff.mp hat).1
        unfold preS
        rw [List.length_take]
        omega
      refine ⟨_, rfl, _, rfl, _, rfl, a, _, k, th, [l0, l1, l2, l3], l0, xs, 0, "satellite", 3, rfl, hL, rfl, rfl, by omega, hT.list, rfl, SqL.of ax, rfl, by omega, fun H2 s1 L1 => ?_⟩
      have hT1 := hT.sx hL s1
      refine ⟨_, rfl, aR, _, _, .ref fS, rfl, rfl, T.t_READERS _, atI_nat (j := 0) rfl, ?_⟩
      obtain ⟨dx0, n0, wl0, c0, g1, g2⟩ := hL.ex
      have ax1 : H2 l0 = some (.lst xs) := s1 _ _ (ne_of ax g1 (fun z => nomatch z)) ax
      refine ⟨_, rfl, _, rfl, th, _, _, .ref l0, rfl, rfl, hT1.list, atI_nat (j := 0) rfl, .inl ⟨rfl, _, SqL.of ax1⟩, fS, _, rfl, S0, _, rfl, _, rfl, _, rfl, ?_⟩
      refine ⟨a, W.horizon, th, s, _, rfl, L1, (hT.n0 T (by omega)).sameX hL s1, (fresh_name (f := (·.name)) wok.dSats hat), wok.sats s hsm, wok.horizon.1, wok.horizon.2, fun b H3 nb s2 L2 o2 => ?_⟩
      have hT2 := hT1.sx L1 s2
      obtain ⟨dx1, n1', wl1, c1, g3, g4⟩ := L1.ex
      have ax2 : H3 l0 = some (.lst xs) := s2 _ _ (ne_of ax1 g3 (fun z => nomatch z)) ax1
      refine ⟨l0, xs, .ref b, rfl, rfl, ax2, small1000 (by omega), ?_⟩
      have rf := refs_sat bx
      have L3 := L2.up (o := .lst (xs ++ [.ref b])) (neR i _ hw) ax2 rf
      obtain ⟨dx2, fs2, g5, z5⟩ := LnAt.no L3 (m := "finish") (by decide +kernel) (by decide +kernel) (by decide +kernel) (by decide +kernel)
      refine ⟨_, rfl, a, _, _, rfl, g5, z5, a, _, rfl, L3, ?_⟩
      refine ⟨(0 : Int), some (.ref a), some (.ref fS), rfl, by omega, ?_, fun j d l hj hd hl => ?_, SameA.new h0 ((hs.trans (SameA.ofX s1 hmem)).trans (SameA.ofX s2 hmem))⟩
      · rw [e1, e2, e3, e4]
        exact hT2.push0 ax2 o2
      · have nd := far j d hj hd
        exact (((hLs j d l (by omega) hd hl).sx hL nd s1).sx L1 nd s2).up (neR j l hl) ax2 rf
    · have hL := hLs i a _ (Nat.le_refl _) ha hw
      obtain ⟨xs, ax, bx⟩ := hT.stas
      have lx := paired_len bx
      have hlt : (preT W i).length < W.stas.length := by
        have z := (List.getElem?_eq_some_iff.mp hat).1
        unfold preT
        rw [List.length_take]
        omega
      refine ⟨_, rfl, _, rfl, _, rfl, a, _, k, th, [l0, l1, l2, l3], l1, xs, 1, "station", 3, rfl, hL, rfl, rfl, by omega, hT.list, rfl, SqL.of ax, rfl, by omega, fun H2 s1 L1 => ?_⟩
      have hT1 := hT.sx hL s1
      refine ⟨_, rfl, aR, _, _, .ref fT, rfl, rfl, T.t_READERS _, atI_nat (j := 1) rfl, ?_⟩
      obtain ⟨dx0, n0, wl0, c0, g1, g2⟩ := hL.ex
      have ax1 : H2 l1 = some (.lst xs) := s1 _ _ (ne_of ax g1 (fun z => nomatch z)) ax
      refine ⟨_, rfl, _, rfl, th, _, _, .ref l1, rfl, rfl, hT1.list, atI_nat (j := 1) rfl, .inl ⟨rfl, _, SqL.of ax1⟩, fT, _, rfl, S1, _, rfl, _, rfl, _, rfl, ?_⟩
      refine ⟨a, W.horizon, th, s, _, rfl, L1, (hT.n1 T (by omega)).sameX hL s1, (fresh_name (f := (·.name)) wok.dStas hat), wok.stas s hsm, fun b H3 nb s2 L2 o2 => ?_⟩
      have hT2 := hT1.sx L1 s2
      obtain ⟨dx1, n1', wl1, c1, g3, g4⟩ := L1.ex
      have ax2 : H3 l1 = some (.lst xs) := s2 _ _ (ne_of ax1 g3 (fun z => nomatch z)) ax1
      refine ⟨l1, xs, .ref b, rfl, rfl, ax2, small1000 (by omega), ?_⟩
      have rf := refs_sta bx
      have L3 := L2.up (o := .lst (xs ++ [.ref b])) (neR i _ hw) ax2 rf
      obtain ⟨dx2, fs2, g5, z5⟩ := LnAt.no L3 (m := "finish") (by decide +kernel) (by decide +kernel) (by decide +kernel) (by decide +kernel)
      refine ⟨_, rfl, a, _, _, rfl, g5, z5, a, _, rfl, L3, ?_⟩
      refine ⟨(1 : Int), some (.ref a), some (.ref fT), rfl, by omega, ?_, fun j d l hj hd hl => ?_, SameA.new h1' ((hs.trans (SameA.ofX s1 hmem)).trans (SameA.ofX s2 hmem))⟩
      · rw [e1, e2, e3, e4]
        exact hT2.push1 ax2 o2
      · have nd := far j d hj hd
        exact (((hLs j d l (by omega) hd hl).sx hL nd s1).sx L1 nd s2).up (neR j l hl) ax2 rf
    · have hL := hLs i a _ (Nat.le_refl _) ha hw
      obtain ⟨xs, ax, bx⟩ := hT.recs
      have lx := paired_len bx
      have hlt : (preR W i).length < W.recs.length := by
        have z := (List.getElem?_eq_some_iff.mp hat).1
        unfold preR
        rw [List.length_take]
        omega
      refine ⟨_, rfl, _, rfl, _, rfl, a, _, k, th, [l0, l1, l2, l3], l2, xs, 2, "recording", 10, rfl, hL, rfl, rfl, by omega, hT.list, rfl, SqL.of ax, rfl, by omega, fun H2 s1 L1 => ?_⟩
      have hT1 := hT.sx hL s1
      refine ⟨_, rfl, aR, _, _, .ref fR, rfl, rfl, T.t_READERS _, atI_nat (j := 2) rfl, ?_⟩
      obtain ⟨dx0, n0, wl0, c0, g1, g2⟩ := hL.ex
      have ax1 : H2 l2 = some (.lst xs) := s1 _ _ (ne_of ax g1 (fun z => nomatch z)) ax
      refine ⟨_, rfl, _, rfl, th, _, _, .ref l2, rfl, rfl, hT1.list, atI_nat (j := 2) rfl, .inl ⟨rfl, _, SqL.of ax1⟩, fR, _, rfl, S2, _, rfl, _, rfl, _, rfl, ?_⟩
      refine ⟨a, th, W, s, _, rfl, L1, (hT.n2 T (by omega)).sameX hL s1, (by rw [← eS]; exact (hT.n0 T (by omega)).sameX hL s1), (fresh_name (f := (·.name)) wok.dRecs hat), wok, wok.recs s hsm, fun b H3 nb s2 L2 o2 => ?_⟩
      have hT2 := hT1.sx L1 s2
      obtain ⟨dx1, n1', wl1, c1, g3, g4⟩ := L1.ex
      have ax2 : H3 l2 = some (.lst xs) := s2 _ _ (ne_of ax1 g3 (fun z => nomatch z)) ax1
      refine ⟨l2, xs, .ref b, rfl, rfl, ax2, small1000 (by omega), ?_⟩
      have rf := refs_rec bx
      have L3 := L2.up (o := .lst (xs ++ [.ref b])) (neR i _ hw) ax2 rf
      obtain ⟨dx2, fs2, g5, z5⟩ := LnAt.no L3 (m := "finish") (by decide +kernel) (by decide +kernel) (by decide +kernel) (by decide +kernel)
      refine ⟨_, rfl, a, _, _, rfl, g5, z5, a, _, rfl, L3, ?_⟩
      refine ⟨(2 : Int), some (.ref a), some (.ref fR), rfl, by omega, ?_, fun j d l hj hd hl => ?_, SameA.new h2' ((hs.trans (SameA.ofX s1 hmem)).trans (SameA.ofX s2 hmem))⟩
      · rw [e1, e2, e3, e4]
        exact hT2.push2 ax2 o2
      · have nd := far j d hj hd
        exact (((hLs j d l (by omega) hd hl).sx hL nd s1).sx L1 nd s2).up (neR j l hl) ax2 rf
    · have hL := hLs i a _ (Nat.le_refl _) ha hw
      obtain ⟨xs, ax, bx⟩ := hT.pass
      have lx := paired_len bx
      have hlt : (preP W i).length < W.pass.length := by
        have z := (List.getElem?_eq_some_iff.mp hat).1
        unfold preP
        rw [List.length_take]
        omega
      refine ⟨_, rfl, _, rfl, _, rfl, a, _, k, th, [l0, l1, l2, l3], l3, xs, 3, "pass", 10, rfl, hL, rfl, rfl, by omega, hT.list, rfl, SqL.of ax, rfl, by omega, fun H2 s1 L1 => ?_⟩
      have hT1 := hT.sx hL s1
      refine ⟨_, rfl, aR, _, _, .ref fP, rfl, rfl, T.t_READERS _, atI_nat (j := 3) rfl, ?_⟩
      obtain ⟨dx0, n0, wl0, c0, g1, g2⟩ := hL.ex
      have ax1 : H2 l3 = some (.lst xs) := s1 _ _ (ne_of ax g1 (fun z => nomatch z)) ax
      refine ⟨_, rfl, _, rfl, th, _, _, .ref l3, rfl, rfl, hT1.list, atI_nat (j := 3) rfl, .inl ⟨rfl, _, SqL.of ax1⟩, fP, _, rfl, S3, _, rfl, _, rfl, _, rfl, ?_⟩
      refine ⟨a, th, W, s, _, rfl, L1, (hT.n3 T (by omega)).sameX hL s1, (by rw [← eS]; exact (hT.n0 T (by omega)).sameX hL s1), (by rw [← eT]; exact (hT.n1 T (by omega)).sameX hL s1), (fresh_name (f := (·.name)) wok.dPass hat), wok, wok.pass s hsm, fun b H3 nb s2 L2 o2 => ?_⟩
      have hT2 := hT1.sx L1 s2
      obtain ⟨dx1, n1', wl1, c1, g3, g4⟩ := L1.ex
      have ax2 : H3 l3 = some (.lst xs) := s2 _ _ (ne_of ax1 g3 (fun z => nomatch z)) ax1
      refine ⟨l3, xs, .ref b, rfl, rfl, ax2, small1000 (by omega), ?_⟩
      have rf := refs_pas bx
      have L3 := L2.up (o := .lst (xs ++ [.ref b])) (neR i _ hw) ax2 rf
      obtain ⟨dx2, fs2, g5, z5⟩ := LnAt.no L3 (m := "finish") (by decide +kernel) (by decide +kernel) (by decide +kernel) (by decide +kernel)
      refine ⟨_, rfl, a, _, _, rfl, g5, z5, a, _, rfl, L3, ?_⟩
      refine ⟨(3 : Int), some (.ref a), some (.ref fP), rfl, by omega, ?_, fun j d l hj hd hl => ?_, SameA.new h3' ((hs.trans (SameA.ofX s1 hmem)).trans (SameA.ofX s2 hmem))⟩
      · rw [e1, e2, e3, e4]
        exact hT2.push3 ax2 o2
      · have nd := far j d hj hd
        exact (((hLs j d l (by omega) hd hl).sx hL nd s1).sx L1 nd s2).up (neR j l hl) ax2 rf
  · obtain ⟨k, y4, y5, rfl, hk, hT, hLs, hs⟩ := hI
    rw [List.length_map, hlen] at hT
    have f1 : preS W (restW W).length = W.sats := List.take_of_length_le (by rw [restW_len]; omega)
    have f2 : preT W (restW W).length = W.stas := List.take_of_length_le (by rw [restW_len]; omega)
    have f3 : preR W (restW W).length = W.recs := List.take_of_length_le (by rw [restW_len]; omega)
    have f4 : preP W (restW W).length = W.pass := List.take_of_length_le (by rw [restW_len]; omega)
    rw [f1, f2, f3, f4] at hT
    exact ⟨_, rfl, q th l0 l1 l2 l3 H1 hs hT⟩
end
end DP
namespace DP
open PySem PySem.Spec PyProof.Rows L2
/-- a staticmethod of a class -/
structure SMet (K : PySem.W.Frag) (C : Addr) (m : Str) (g : Addr) : Prop where
  ex : ∃ p rest, PySem.W.findCls K (.ref C) (.type "type") m = some (.get (.builtin "staticmethod.__get__") (.ref p) .none (.ref C)) ∧ PySem.W.recIn K p "staticmethod" = some (.ref g :: rest)
structure SAt (K : PySem.W.Frag) (C : Addr) (m qual : Str) (st : Stmt) (ps : List Str) : Prop where
  ex : ∃ f fd, Fun K m qual st f fd ∧ SMet K C m f ∧ Binds K fd ps []
structure SDef (P : Program) (w : World) (K : PySem.W.Frag) (mg : Str → Option Value) (base : Heap) (CX : CXT) (k : Nat) (C : Addr) (m : Str) (ps : List Str) (sp : Sp) : Prop where
  ex : ∃ f fd, FnOk P w K mg base CX k f fd ps sp ∧ SMet K C m f ∧ PySem.W.keepIn K (.ref f) = true ∧ Binds K fd ps []
def tSMeth (C : Addr) (sp : Sp) (E : XK) (ta : TE) (t : TA) : TE := fun σ H Q => ta σ H fun x H1 => x = .ref C ∧ t σ H1 fun vs H2 => sp vs H2 Q E
theorem pe_smeth {X : Cx} {CX : CXT} {k : Nat} {C : Addr} {m : Str} {ps : List Str} {sp : Sp} {E : XK} {o e : Expr} {es : List Expr} {ta : TE} {t : TA} {pos apos : Pos} {pl : Sem Bool}
    (D : SDef X.prog X.w X.K X.mg X.base CX k C m ps sp) (rd : ClX.CRead X.K C (.type "type")) (hr : Room k X.A) (hx : Passes CX X E) (he : PE X o ta) (ha : PA X (e :: es) t)
    (hst : starEach (e :: es) X.env = (false, eval e X.env) :: starEach es X.env := by rfl) (hpl : (backTo pos (starEach es X.env)).any (·.1) = false := by rfl)
    (ht : eval (.Call (.Attribute o m apos) (e :: es) [] pos) X.env = (do
      let ov ← eval o X.env
      standAt apos.atName
      let (f, first) ← holding [ov] (getMethod ov m pl)
      callWith pos f first (backTo pos (starEach (e :: es) X.env)) (backToKw pos (keywordEach [] X.env))) := by rfl) :
    PE X (.Call (.Attribute o m apos) (e :: es) [] pos) (tSMeth C sp E ta t) := by
  obtain ⟨f, fd, G, ⟨p, rest, e1, e2⟩, kp, b⟩ := D.ex
  refine ⟨fun pins s σ H Q I h => ?_⟩
  refine PySem.W.methodCall_KW (pl := pl) (thn (he.run pins s σ H _ I h) fun u s1 ⟨x, H1, I1, rx, ex, q⟩ => ?_) ht
  subst ex
  obtain rfl : u = Value.ref C := rx
  have I2 := I1.tok (s1.toks + 1)
  refine PySem.W.method_cls I1.kIn rd.ga (PySem.W.cls_bind I1.kIn rd.rd e1 (wpAny_call (PySem.W.sm_get (s := { s1 with toks := s1.toks + 1 }) I2.kIn e2 (PySem.W.handed_on (handed_of (v := .ref f) rfl) ?_))))
  refine PySem.W.callWith_K (h₀ := X.base) I.ok.mod.kin kp (thn (ha.run pos pins _ σ H1 _ I2 q) fun us s3 ⟨vs, H2, I3, r, q2⟩ => ⟨I3.kIn, ?_⟩) hst hpl
  rw [← List.append_nil vs] at q2
  exact run_fn (dvs := []) (ds := []) G hr b .nil hx I3 r q2
section
variable {P : Program} {w : World} {K : PySem.W.Frag} {mg : Str → Option Value} {base : Heap} {C : Addr} {m qual : Str} {st : Stmt} {ps N : List Str} {k : Nat} {sp : Sp}
theorem SAt.ok (F : SAt K C m qual st ps) (S : FnScope N ps (defScope st)) (len : ∀ vs H Q E, sp vs H Q E → vs.length = ps.length)
    (hbody : ∀ (f : Addr) (cdv : Value) (A : Around) (outer : List Env) (s : Shared) (H : Hp) (vs : List V) (Q : VK) (E : XK), Room k (A.deeper (envOfC qual (defScope st) s.heap.objs.size f cdv)) → sp vs H Q E →
      ∃ t, PSs (cxOf CX0 P w K mg base N qual (defScope st) f cdv A outer s H E).nox (defBody st) t ∧ t { nx := fun _ H' => Q .non H', rt := Q } (start N vs) H) : SDef P w K mg base CX0 (k + 1) C m ps sp := by
  obtain ⟨f, fd, G, M, b⟩ := F.ex
  exact ⟨f, fd, G.ok S len (fun cdv A outer s H vs Q E hr h => hbody f cdv A outer s H vs Q E hr h), M, G.kp, b⟩
end
def worF (u : Str) (h : Int) (t0 t1 t2 t3 : Addr) : List (Str × V) := [("text", .str u), ("horizon", .int h), ("satellites", .ref t0), ("stations", .ref t1), ("recordings", .ref t2), ("passes", .ref t3)]
structure WorldAt (K : PySem.W.Frag) (CS CT CR CP CW : Addr) (H : Hp) (a : Addr) (W : WorldD) : Prop where
  ex : ∃ dx t0 t1 t2 t3 x0 x1 x2 x3, H a = some (.ins CW dx (worF (textW W) W.horizon t0 t1 t2 t3)) ∧ SqT K H t0 x0 ∧ Paired (SatAt K CS H) x0 W.sats ∧ SqT K H t1 x1 ∧ Paired (StaAt CT H) x1 W.stas ∧
    SqT K H t2 x2 ∧ Paired (RecAt CR H) x2 W.recs ∧ SqT K H t3 x3 ∧ Paired (PasAt K CP H) x3 W.pass
theorem WorldAt.same {K : PySem.W.Frag} {CS CT CR CP CW : Addr} {H H' : Hp} {a : Addr} {W : WorldD} (h : WorldAt K CS CT CR CP CW H a W) (z : Same H H') : WorldAt K CS CT CR CP CW H' a W := by
  obtain ⟨dx, t0, t1, t2, t3, x0, x1, x2, x3, g, a0, b0, a1, b1, a2, b2, a3, b3⟩ := h.ex
  exact ⟨dx, t0, t1, t2, t3, x0, x1, x2, x3, z _ _ g, Same.tup z a0, Paired.mapP b0 fun _ _ y => y.same z, Same.tup z a1, Paired.mapP b1 fun _ _ y => y.same z, Same.tup z a2, Paired.mapP b2 fun _ _ y => y.same z, Same.tup z a3, Paired.mapP b3 fun _ _ y => y.same z⟩
section
variable {K : PySem.W.Frag} {CS CT CR CP C : Addr} {H H' : Hp} {x dx th l0 l1 l2 l3 : Addr} {y : V} {S : List SatD} {T : List StaD} {R : List RecD} {P : List PasD}
theorem ne_bare {b D dy : Addr} {fs : List (Str × V)} (hx : H x = some (.ins C dx [])) (hb : H b = some (.ins D dy fs)) (n : fs.length ≠ 0) : b ≠ x := ins_ne hb hx n
/-- the things stay where a new object is filled -/
theorem Thg.bare (h : Thg K CS CT CR CP H th l0 l1 l2 l3 S T R P) (hx : H x = some (.ins C dx [])) (z : SameX x H H') : Thg K CS CT CR CP H' th l0 l1 l2 l3 S T R P := by
  obtain ⟨x0, a0, b0⟩ := h.sats
  obtain ⟨x1, a1, b1⟩ := h.stas
  obtain ⟨x2, a2, b2⟩ := h.recs
  obtain ⟨x3, a3, b3⟩ := h.pass
  refine ⟨z _ _ (ne_of h.tup hx (fun z => nomatch z)) h.tup, h.d01, h.d02, h.d03, h.d12, h.d13, h.d23, ⟨x0, z _ _ (ne_of a0 hx (fun z => nomatch z)) a0, Paired.mapP b0 fun _ _ q => ?_⟩, ⟨x1, z _ _ (ne_of a1 hx (fun z => nomatch z)) a1, Paired.mapP b1 fun _ _ q => ?_⟩,
    ⟨x2, z _ _ (ne_of a2 hx (fun z => nomatch z)) a2, Paired.mapP b2 fun _ _ q => ?_⟩, ⟨x3, z _ _ (ne_of a3 hx (fun z => nomatch z)) a3, Paired.mapP b3 fun _ _ q => ?_⟩⟩
  · obtain ⟨b, dx, t, ls, h1, h2, h3, h4⟩ := q
    exact ⟨b, dx, t, ls, h1, z _ _ (ne_bare hx h2 (by show 8 ≠ 0; decide)) h2, z.sqT hx h3, z.spans hx h4⟩
  · obtain ⟨b, dx, h1, h2⟩ := q
    exact ⟨b, dx, h1, z _ _ (ne_bare hx h2 (by show 3 ≠ 0; decide)) h2⟩
  · obtain ⟨b, dx, h1, h2⟩ := q
    exact ⟨b, dx, h1, z _ _ (ne_bare hx h2 (by show 10 ≠ 0; decide)) h2⟩
  · obtain ⟨b, dx, t, h1, h2, h3⟩ := q
    exact ⟨b, dx, t, h1, z _ _ (ne_bare hx h2 (by show 7 ≠ 0; decide)) h2, z.sqT hx h3⟩
end
section
variable {P : Program} {w : World} {K : PySem.W.Frag} {mg : Str → Option Value} {base : Heap} {CL CS CT CR CP CW aS aR fS fT fR fP : Addr}
def spWInit (K : PySem.W.Frag) (CS CT CR CP CW : Addr) : Sp := fun vs H Q _ => ∃ (x dx : Addr) (W : WorldD) (th l0 l1 l2 l3 : Addr), vs = [.ref x, .str (textW W), .int W.horizon, .ref th] ∧ H x = some (.ins CW dx []) ∧
  Thg K CS CT CR CP H th l0 l1 l2 l3 W.sats W.stas W.recs W.pass ∧ ∀ H', SameX x H H' → WorldAt K CS CT CR CP CW H' x W → Q .non H'
theorem dI_World (T : TxtW K mg CL CS CT CR CP CW aS aR fS fT fR fP) (A : MAt K CW "__init__" "World.__init__" s_World___init__ ["self", "text", "horizon", "things"]) : MDef P w K mg base CX0 1 CW "__init__" ["self", "text", "horizon", "things"] [] (spWInit K CS CT CR CP CW) := by
  have B := T.L.B
  refine A.ok sc_World___init__ (fun vs H Q E h => ?_) (fun f cdv A outer s H vs Q E hr h => ?_)
  · obtain ⟨x, dx, W, th, l0, l1, l2, l3, rfl, _⟩ := h
    rfl
  obtain ⟨x, dx, W, th, l0, l1, l2, l3, rfl, hx, hT, q⟩ := h
  refine ⟨_, pss_cons (ps_asg (pv 3) (pg_tup (by rfl) (pgs_cons (pg_name (i := 4) sc_World___init__.nd rfl (Or.inl rfl)) (pgs_cons (pg_name (i := 5) sc_World___init__.nd rfl (Or.inl rfl)) (pgs_cons (pg_name (i := 6) sc_World___init__.nd rfl (Or.inl rfl)) (pgs_cons (pg_name (i := 7) sc_World___init__.nd rfl (Or.inl rfl)) (pgs_nil)))))))
  (pss_cons (ps_fld (pv 0) (pv 1) rfl)
  (pss_cons (ps_fld (pv 0) (pv 2) rfl)
  (pss_cons (ps_fld (pv 0) (pe_callTy (call_tuple_of) (by rfl) B.tuple (by decide +kernel) (pa_cons (pv 4) pa_nil)) rfl)
  (pss_cons (ps_fld (pv 0) (pe_callTy (call_tuple_of) (by rfl) B.tuple (by decide +kernel) (pa_cons (pv 5) pa_nil)) rfl)
  (pss_cons (ps_fld (pv 0) (pe_callTy (call_tuple_of) (by rfl) B.tuple (by decide +kernel) (pa_cons (pv 6) pa_nil)) rfl)
  (pss_one (ps_fld (pv 0) (pe_callTy (call_tuple_of) (by rfl) B.tuple (by decide +kernel) (pa_cons (pv 7) pa_nil)) rfl)))))))
    , ?_⟩
  have cl := T.c_World.cl
  refine ⟨_, rfl, th, _, rfl, SqT.of hT.tup, rfl, _, _, rfl, _, _, rfl, _, _, rfl, _, _, rfl, rfl, ?_⟩
  refine ⟨_, rfl, _, rfl, x, CW, dx, _, rfl, hx, cl, T.n_World_text, (by show 0 < 1000; decide), ?_⟩
  rw [put_nil]
  refine ⟨_, rfl, _, rfl, x, CW, dx, _, rfl, upd_same, cl, T.n_World_horizon, (by show 1 < 1000; decide), ?_⟩
  rw [upd_upd, put_miss (by decide +kernel), put_nil]
  have z1 : SameX x H (upd H x (.ins CW dx [("text", .str (textW W)), ("horizon", .int W.horizon)])) := SameX.upd
  obtain ⟨x0, a0, b0⟩ := (hT.bare hx z1).sats
  refine ⟨_, rfl, l0, x0, rfl, .inl ⟨SqL.of a0, fun t0 ht0 => ?_⟩⟩
  have e0 : x ≠ t0 := fun z => by rw [← z, upd_same] at ht0; cases ht0
  refine ⟨_, rfl, x, CW, dx, _, rfl, (upd_ne e0).trans upd_same, cl, T.n_World_satellites, (by show 2 < 1000; decide), ?_⟩
  rw [put_miss (by decide +kernel), put_miss (by decide +kernel), put_nil]
  have z2 : SameX x H (upd (upd (upd H x (.ins CW dx [("text", .str (textW W)), ("horizon", .int W.horizon)])) t0 (.tup x0)) x (.ins CW dx [("text", .str (textW W)), ("horizon", .int W.horizon), ("satellites", .ref t0)])) := (z1.trans (SameX.of (same_new ht0 _))).trans SameX.upd
  generalize hH2 : (upd (upd (upd H x (.ins CW dx [("text", .str (textW W)), ("horizon", .int W.horizon)])) t0 (.tup x0)) x (.ins CW dx [("text", .str (textW W)), ("horizon", .int W.horizon), ("satellites", .ref t0)])) = H2 at z2
  have g2 : H2 x = some (.ins CW dx [("text", .str (textW W)), ("horizon", .int W.horizon), ("satellites", .ref t0)]) := by rw [← hH2, upd_same]
  have k0 : H2 t0 = some (.tup x0) := by rw [← hH2, upd_ne e0.symm, upd_same]
  obtain ⟨x1, a1, b1⟩ := (hT.bare hx z2).stas
  refine ⟨_, rfl, l1, x1, rfl, .inl ⟨SqL.of a1, fun t1 ht1 => ?_⟩⟩
  have e1 : x ≠ t1 := ne_of_none g2 ht1
  refine ⟨_, rfl, x, CW, dx, _, rfl, (upd_ne e1).trans g2, cl, T.n_World_stations, (by show 3 < 1000; decide), ?_⟩
  rw [put_miss (by decide +kernel), put_miss (by decide +kernel), put_miss (by decide +kernel), put_nil]
  have z3 : SameX x H2 (upd (upd H2 t1 (.tup x1)) x (.ins CW dx [("text", .str (textW W)), ("horizon", .int W.horizon), ("satellites", .ref t0), ("stations", .ref t1)])) := (SameX.of (same_new ht1 _)).trans SameX.upd
  generalize hH3 : (upd (upd H2 t1 (.tup x1)) x (.ins CW dx [("text", .str (textW W)), ("horizon", .int W.horizon), ("satellites", .ref t0), ("stations", .ref t1)])) = H3 at z3
  have g3 : H3 x = some (.ins CW dx [("text", .str (textW W)), ("horizon", .int W.horizon), ("satellites", .ref t0), ("stations", .ref t1)]) := by rw [← hH3, upd_same]
  have k1 : H3 t1 = some (.tup x1) := by rw [← hH3, upd_ne e1.symm, upd_same]
  obtain ⟨x2, a2, b2⟩ := (hT.bare hx (z2.trans z3)).recs
  refine ⟨_, rfl, l2, x2, rfl, .inl ⟨SqL.of a2, fun t2 ht2 => ?_⟩⟩
  have e2 : x ≠ t2 := ne_of_none g3 ht2
  refine ⟨_, rfl, x, CW, dx, _, rfl, (upd_ne e2).trans g3, cl, T.n_World_recordings, (by show 4 < 1000; decide), ?_⟩
  rw [put_miss (by decide +kernel), put_miss (by decide +kernel), put_miss (by decide +kernel), put_miss (by decide +kernel), put_nil]
  have z4 : SameX x H3 (upd (upd H3 t2 (.tup x2)) x (.ins CW dx [("text", .str (textW W)), ("horizon", .int W.horizon), ("satellites", .ref t0), ("stations", .ref t1), ("recordings", .ref t2)])) := (SameX.of (same_new ht2 _)).trans SameX.upd
  generalize hH4 : (upd (upd H3 t2 (.tup x2)) x (.ins CW dx [("text", .str (textW W)), ("horizon", .int W.horizon), ("satellites", .ref t0), ("stations", .ref t1), ("recordings", .ref t2)])) = H4 at z4
  have g4 : H4 x = some (.ins CW dx [("text", .str (textW W)), ("horizon", .int W.horizon), ("satellites", .ref t0), ("stations", .ref t1), ("recordings", .ref t2)]) := by rw [← hH4, upd_same]
  have k2 : H4 t2 = some (.tup x2) := by rw [← hH4, upd_ne e2.symm, upd_same]
  obtain ⟨x3, a3, b3⟩ := (hT.bare hx ((z2.trans z3).trans z4)).pass
  refine ⟨_, rfl, l3, x3, rfl, .inl ⟨SqL.of a3, fun t3 ht3 => ?_⟩⟩
  have e3 : x ≠ t3 := ne_of_none g4 ht3
  refine ⟨_, rfl, x, CW, dx, _, rfl, (upd_ne e3).trans g4, cl, T.n_World_passes, (by show 5 < 1000; decide), ?_⟩
  rw [put_miss (by decide +kernel), put_miss (by decide +kernel), put_miss (by decide +kernel), put_miss (by decide +kernel), put_miss (by decide +kernel), put_nil]
  have z5 : SameX x H4 (upd (upd H4 t3 (.tup x3)) x (.ins CW dx (worF (textW W) W.horizon t0 t1 t2 t3))) := (SameX.of (same_new ht3 _)).trans SameX.upd
  have zz := (((z2.trans z3).trans z4).trans z5)
  have hTT := hT.bare hx zz
  have c0 : ∀ {y0 : List V}, Paired (SatAt K CS H) y0 W.sats → True := fun _ => True.intro
  obtain ⟨y0, q0, r0⟩ := hT.sats
  obtain ⟨y1, q1, r1⟩ := hT.stas
  obtain ⟨y2, q2, r2⟩ := hT.recs
  obtain ⟨y3, q3, r3⟩ := hT.pass
  obtain ⟨w0, u0, v0⟩ := hTT.sats
  obtain ⟨w1, u1, v1⟩ := hTT.stas
  obtain ⟨w2, u2, v2⟩ := hTT.recs
  obtain ⟨w3, u3, v3⟩ := hTT.pass
  have n0 : l0 ≠ x := ne_of q0 hx (fun z => nomatch z)
  have n1 : l1 ≠ x := ne_of q1 hx (fun z => nomatch z)
  have n2 : l2 ≠ x := ne_of q2 hx (fun z => nomatch z)
  have n3 : l3 ≠ x := ne_of q3 hx (fun z => nomatch z)
  have j0 : w0 = x0 := HO.lst.inj (Option.some.inj (u0.symm.trans ((((z2.trans z3).trans z4).trans z5) _ _ n0 q0 |>.trans (by rw [← (z1 _ _ n0 q0).symm.trans a0]))))
  have j1 : w1 = x1 := HO.lst.inj (Option.some.inj (u1.symm.trans ((((z2.trans z3).trans z4).trans z5) _ _ n1 q1 |>.trans (by rw [← (z2 _ _ n1 q1).symm.trans a1]))))
  have j2 : w2 = x2 := HO.lst.inj (Option.some.inj (u2.symm.trans ((((z2.trans z3).trans z4).trans z5) _ _ n2 q2 |>.trans (by rw [← ((z2.trans z3) _ _ n2 q2).symm.trans a2]))))
  have j3 : w3 = x3 := HO.lst.inj (Option.some.inj (u3.symm.trans ((((z2.trans z3).trans z4).trans z5) _ _ n3 q3 |>.trans (by rw [← (((z2.trans z3).trans z4) _ _ n3 q3).symm.trans a3]))))
  subst j0 j1 j2 j3
  exact q _ zz ⟨dx, t0, t1, t2, t3, w0, w1, w2, w3, upd_same, SqT.of (z5 _ _ e0.symm (z4 _ _ e0.symm (z3 _ _ e0.symm k0))), v0, SqT.of (z5 _ _ e1.symm (z4 _ _ e1.symm k1)), v1, SqT.of (z5 _ _ e2.symm k2), v2, SqT.of (by rw [upd_ne e3.symm, upd_same]), v3⟩
end
end DP
namespace DP
open PySem PySem.Spec PyProof.Rows L2
section
variable {P : Program} {w : World} {K : PySem.W.Frag} {mg : Str → Option Value} {base : Heap} {CL CS CT CR CP CW aS aR fS fT fR fP : Addr}
def spParse (K : PySem.W.Frag) (CS CT CR CP CW : Addr) : Sp := fun vs H Q _ => ∃ W : WorldD, vs = [.str (textW W)] ∧ WorldOk W ∧ ∀ a H', H a = none → Same H H' → WorldAt K CS CT CR CP CW H' a W → Q (.ref a) H'
theorem d_parse (T : TxtW K mg CL CS CT CR CP CW aS aR fS fT fR fP) (D_lines_of : DefOk P w K mg base CX0 3 "lines_of" ["text"] (spLines CL)) (D_Line_read_field : MDef P w K mg base CX0 4 CL "read_field" ["self", "word", "least", "most"] [] (spField CL))
    (D_Line_finish : MDef P w K mg base CX0 3 CL "finish" ["self"] [] (spFinish CL)) (D_read_things : DefOk P w K mg base CX0 6 "read_things" ["lines", "horizon"] (spThings K CL CS CT CR CP))
    (DI_World : MDef P w K mg base CX0 1 CW "__init__" ["self", "text", "horizon", "things"] [] (spWInit K CS CT CR CP CW)) (A : SAt K CW "parse" "World.parse" s_World_parse ["text"]) : SDef P w K mg base CX0 7 CW "parse" ["text"] (spParse K CS CT CR CP CW) := by
  have B := T.L.B
  refine A.ok sc_World_parse (fun vs H Q E h => ?_) (fun f cdv A outer s H vs Q E hr h => ?_)
  · obtain ⟨W, rfl, _⟩ := h
    rfl
  obtain ⟨W, rfl, wok, q⟩ := h
  refine ⟨_, pss_cons (ps_set (i := 1) sc_World_parse.nd rfl (Or.inl rfl) (pe_f D_lines_of (hr.mono (by omega)) pass0 (pa_cons (pv 0) pa_nil)))
  (pss_cons (ps_if (pt_cmpR op_eq (pe_callB (call_len_seq) (by rfl) B.len (by decide +kernel) (pa_cons (pv 1) pa_nil)) pe_int (nomark _))
      (pss_one (ps_never))
      (pss_nil))
  (pss_cons (ps_set (i := 2) sc_World_parse.nd rfl (Or.inl rfl) (pe_m D_Line_read_field T.c_Line.cl (hr.mono (by omega)) pass0 (pe_ix ix_list (pv 1) pe_int (fun _ _ => rfl)) (pa_cons pe_str (pa_cons pe_int (pa_cons (ClX.pe_cval (pe_ga T.c_World.gC) rfl) pa_nil)))))
  (pss_cons (ps_expr (pe_m0 D_Line_finish T.c_Line.cl (hr.mono (by omega)) pass0 (pe_ix ix_list (pv 1) pe_int (fun _ _ => rfl))))
  (pss_one (ps_ret (pe_mk DI_World T.c_World (hr.mono (by omega)) pass0 (pa_cons (pv 0) (pa_cons (pv 2) (pa_cons (pe_f D_read_things (hr.mono (by omega)) pass0 (pa_cons (pe_slice sl_list (pv 1) (po_some pe_int) po_none) (pa_cons (pv 2) pa_nil))) pa_nil)))))))))
    , ?_⟩
  refine ⟨_, rfl, linesW W, rfl, linesW_ok wok, Nat.le_trans (linesW_len wok) (by decide), textW_len wok, fun p as H1 s1 hp hfr hnd hpp hpr => ?_⟩
  obtain ⟨a0, ar, rfl⟩ : ∃ a0 ar, as = a0 :: ar := by
    cases hpr with
    | cons _ _ => exact ⟨_, _, rfl⟩
  obtain ⟨L0, hpr2⟩ : LnAt CL H1 a0 (wHor W.horizon) 0 ∧ Paired (fun a l => LnAt CL H1 a l 0) ar (restW W) := by
    cases hpr with
    | cons x y => exact ⟨x, y⟩
  have hl0 : a0 ≠ p := by
    obtain ⟨dx, n, wl, c, g1, g2⟩ := L0.ex
    exact ne_of g1 hpp (fun z => nomatch z)
  refine ⟨_, rfl, p, _, rfl, .inl (SqL.of hpp), rfl, _, rfl, iteF' (decide_eq_false fun z => by
    have z2 := V.int.inj z
    rw [List.length_map, List.length_cons] at z2
    omega) ?_⟩
  obtain ⟨tk, hv⟩ := T.v_MOST_HORIZON
  have hh := wok.horizon
  obtain ⟨dx0, fs0, g0, z0⟩ := LnAt.no L0 (m := "read_field") (by decide +kernel) (by decide +kernel) (by decide +kernel) (by decide +kernel)
  refine ⟨_, rfl, p, _, _, .ref a0, rfl, rfl, SqL.of hpp, atI_nat (j := 0) rfl, a0, _, _, rfl, g0, z0, CW, _, _, _, rfl, T.rdW, hv, a0, _, 0, _, _, _, W.horizon, rfl, L0, rfl, rfl, by omega, by omega, by omega, by omega, fun H2 s2 L2 => ?_⟩
  have hpp2 := s2 _ _ hl0.symm hpp
  obtain ⟨dx1, fs1, g1, z1⟩ := LnAt.no L2 (m := "finish") (by decide +kernel) (by decide +kernel) (by decide +kernel) (by decide +kernel)
  refine ⟨_, rfl, p, _, _, .ref a0, rfl, rfl, SqL.of hpp2, atI_nat (j := 0) rfl, a0, _, _, rfl, g1, z1, a0, _, rfl, L2, ?_⟩
  have sl : cutV ((a0 :: ar).map V.ref) (some 1) none = ar.map V.ref := by
    unfold cutV
    rw [show HT.sIx ((a0 :: ar).map V.ref).length 0 (some 1) = min 1 ((a0 :: ar).map V.ref).length from HT.sIx_nat _ 0 1, HT.sIx_none]
    rw [List.map_cons, List.length_cons, show min 1 ((ar.map V.ref).length + 1) = 1 by omega]
    show List.take ((ar.map V.ref).length + 1 - 1) (ar.map V.ref) = ar.map V.ref
    rw [Nat.add_sub_cancel, List.take_length]
  refine ⟨_, rfl, _, rfl, _, rfl, 1, rfl, p, _, rfl, SqL.of hpp2, fun p2 hp2 => ?_⟩
  rw [sl]
  have nd2 := List.nodup_cons.mp hnd
  refine ⟨_, rfl, p2, ar, W, rfl, SqL.of upd_same, nd2.2, wok, ?_, fun th l0 l1 l2 l3 H3 s3 hT => ?_⟩
  · -- the lines stay
    have key : ∀ {as : List Addr} {ls : List (List Str)}, a0 ∉ as → Paired (fun a l => LnAt CL H1 a l 0) as ls → Paired (fun a l => LnAt CL (upd H2 p2 (.lst (ar.map V.ref))) a l 0) as ls := by
      intro as ls hn hp
      induction hp with
      | nil => exact .nil
      | cons x _ ih =>
        refine .cons ?_ (ih fun z => hn (List.mem_cons_of_mem _ z))
        exact (x.sx L0 (fun z => hn (z ▸ List.mem_cons_self)) s2).same (same_new hp2 _)
    exact key nd2.1 hpr2
  refine fun x dx hx hdx ne => ?_
  have sm : Same H3 (upd (upd H3 dx (.own x)) x (.ins CW dx [])) := fun b o e => by
    rw [upd_ne (ne_of_none e hx), upd_ne (ne_of_none e hdx)]
    exact e
  refine ⟨x, dx, W, th, l0, l1, l2, l3, rfl, upd_same, hT.same sm, fun H4 s4 hW => ⟨rfl, ?_⟩⟩
  have all : Same H H3 := fun b o e => by
    have n0 : b ≠ a0 := ne_of_none e (hfr a0 List.mem_cons_self)
    refine s3 b o (fun z => ?_) (same_new hp2 _ b o (s2 b o n0 (s1 b o e)))
    exact ne_of_none e (hfr b (List.mem_cons_of_mem _ z)) rfl
  refine q x H4 (all.free hx) (fun b o e => ?_) hW
  have e3 := all b o e
  exact s4 b o (ne_of_none e3 hx) (sm b o e3)
end
end DP
namespace DP
open PySem PySem.Spec PyProof.Rows L2
section
open PySem.W PySem.Calls
variable {prog : Program} {w : World} {A : Around} {E : Value → Shared → Prop} {h : Heap} {g : Array GenState} {d : Drawn} {t : Nat} {os : OsState}
variable {nm q : Str} {C N : Addr} {bs bm : List Value} {hdct : Bool} {sn : List Str} {sub : List Value} {ab : Bool} {col : Option Bool} {dd : Option Addr} {k0 k1 k2 k3 k5 : Option Value}
theorem call_mw {u e t0 : Addr} {rest : List Value} {Q : Value → Shared → Prop}
    (hC : h.get? C = some (excClassObj nm q C N bs bm hdct sn sub ab col dd k0 k1 k2 k3 k5 "ValueError.__new__")) (he : h.get? e = some (HandSPX.excO C t0)) (hu : h.get? u = some (kxs_mw "ValueError.__init__" e)) (hrest : rest.length ≤ sizeLine)
    (hq : ∀ h' t1, (∀ b o, b ≠ e → h.get? b = some o → h'.get? b = some o) → h'.get? e = some (HandSPX.excO C t1) → Q .none ⟨h', g, d, t, os⟩) :
    wpAny (model prog w) A (call (.ref u) rest) Q E ⟨h, g, d, t, os⟩ := by
  refine wpAny_call (codeAny_of_tree ?_)
  show wpAny _ A.in1 (callAny (.ref u) ⟨rest, []⟩) _ _ _
  simp only [callAny]
  refine wpAny_bind (wpAny_load hu ?_)
  simp only [kxs_mw, show (Value.type "method-wrapper" == Value.type "method" || Value.type "method-wrapper" == Value.type "builtin_function_or_method" || Value.type "method-wrapper" == Value.type "method-wrapper") = true by decide, if_true]
  refine W.KFB.if_so (by decide) ?_
  refine wpAny_bind (ESX.check_bound F.excBase_ValueError hC he rfl ?_)
  refine wpAny_bind (wpAny_pure (wpAny_pure ?_))
  refine ⟨Code.quiet_builtin _ (by decide +kernel), codeAny_builtin F.excBase_ValueError.initEntry ?_⟩
  rw [Around.under_plainId F.excBase_ValueError.init.plain _]
  wp_walk
  refine hq _ h.objs.size (fun b o hb ho => ?_) ?_
  · rw [Heap.get?_update_other _ _ (Ne.symm hb)]
    exact Heap.get?_push_of_some _ ho
  · rw [Heap.get?_update_self _ (Heap.get?_push_of_some _ he) rfl]
    rfl
end
/-- names: the parameters first; a free name is __class__ -/
structure FnScopeS (N P : List Str) (sc : Scope) : Prop where
  kind : sc.kind = .function
  co : sc.isCoroutine = false
  gen : sc.isGenerator = false
  nd : N.Nodup
  pre : N.take P.length = P
  par : ∀ x ∈ P, sc.names.lookup x = some .local
  nocell : ∀ y ∈ sc.names, y.2 ≠ .cell
  free : ∀ y ∈ sc.names, y.2 = .free → y.1 = ("__class__" : Str)
  su : sc.names.lookup ("super" : Str) = some .globalImplicit
  cl : sc.names.lookup ("__class__" : Str) = some .free
def cxS (CX : CXT) (P : Program) (w : World) (K : PySem.W.Frag) (mg : Str → Option Value) (base : Heap) (N : List Str) (qual : Str) (scope : Scope) (f : Addr) (cd : Value) (cc : Addr) (A : Around) (outer : List Env) (s : Shared) (H : Hp) (E : XK) : Cx where
  prog := P
  w := w
  K := K
  mg := mg
  base := base
  A := A.deeper (PySem.W.ksEnv qual scope s.heap.objs.size f cd cc)
  N := N
  s_0 := s
  H_0 := H
  env := PySem.W.ksEnv qual scope s.heap.objs.size f cd cc
  outer := outer
  stack := PySem.W.ksEnv qual scope s.heap.objs.size f cd cc :: outer
  ex := []
  calm := true
  fn := fun _ => false
  pn := []
  xe := fun e s' => wpAny (model P w) (A.deeper (PySem.W.ksEnv qual scope s.heap.objs.size f cd cc)) (leaving (PySem.W.ksEnv qual scope s.heap.objs.size f cd cc) e) (fun _ s'' => CX outer H s E e s'') (fun e' s'' => CX outer H s E e' s'') s'
theorem lookup_of_mem {α β : Type} [BEq α] [LawfulBEq α] {a : α} {b : β} : ∀ {l : List (α × β)}, (l.map (·.1)).Nodup → (a, b) ∈ l → l.lookup a = some b
  | [], _, h => absurd h (by simp)
  | (c, e) :: l, n, h => by
    rw [List.map_cons, List.nodup_cons] at n
    rw [List.lookup_cons]
    rcases List.mem_cons.mp h with h2 | h2
    · cases h2
      simp
    · have hne : (a == c) = false := by
        simp only [beq_eq_false_iff_ne]
        rintro rfl
        exact n.1 (List.mem_map.mpr ⟨(a, b), h2, rfl⟩)
      rw [hne]
      exact lookup_of_mem n.2 h2
theorem zip_map_fst {α β : Type} : ∀ {l : List α} {m : List β}, l.length = m.length → (l.zip m).map (·.1) = l
  | [], [], _ => rfl
  | a :: l, b :: m, h => by
    rw [List.zip_cons_cons, List.map_cons, zip_map_fst (by simpa using h)]
  | [], _ :: _, h => by simp at h
  | _ :: _, [], h => by simp at h
theorem cls_lookup {x : Str} {cc c : Addr} (h : ([(("__class__" : Str), cc)] : List (Str × Addr)).lookup x = some c) : x = ("__class__" : Str) ∧ c = cc := by
  rw [List.lookup_cons] at h
  by_cases e : x = ("__class__" : Str)
  · have e2 : (x == ("__class__" : Str)) = true := by simpa using e
    rw [e2] at h
    exact ⟨e, (Option.some.inj h).symm⟩
  · have e2 : (x == ("__class__" : Str)) = false := by simpa using e
    rw [e2] at h
    cases h
section
variable {CX : CXT} {P : Program} {w : World} {K : PySem.W.Frag} {mg : Str → Option Value} {base : Heap} {N ps : List Str} {qual : Str} {scope : Scope} {f cc CT : Addr} {cd : Value} {A : Around} {outer : List Env} {s : Shared} {H : Hp} {E : XK} {us : List Value} {vs : List V}
theorem inv_startS {h₁ : Heap} {tk : Nat} {ccl : Value} {ccd : Option Addr} {ccs : Array (Option Value)} (S : FnScopeS N ps scope) (hd : A.handled = none) (e0 : Env0 P w K mg base A outer s H) (hl : vs.length = ps.length) (r : Vals vs us)
    (lkc : K.lookup cc = some ⟨ccl, ccd, .cell (some (.ref CT)), ccs⟩)
    (hns : h₁.Ns s.heap.objs.size (fun x => (ps.zip us).reverse.lookup x)) (hk : ∀ b o, s.heap.get? b = some o → h₁.get? b = some o) :
    Inv (cxS CX P w K mg base N qual scope f cd cc A outer s H E) [] (start N vs) H { s with heap := h₁, toks := tk } := by
  have hpl : ps.length ≤ N.length := by have := congrArg List.length S.pre; rw [List.length_take] at this; omega
  have noA : ∀ b : Addr, b ∉ (cxS CX P w K mg base N qual scope f cd cc A outer s H E).ex := fun b z => absurd (show b ∈ ([] : List Addr) from z) (by simp)
  have bcc : base.get? cc = some ⟨ccl, ccd, .cell (some (.ref CT)), ccs⟩ := e0.mod.kin _ _ lkc
  have ndP : ps.Nodup := by rw [← S.pre]; exact S.nd.sublist (List.take_sublist _ _)
  have hul : ps.length = us.length := by rw [← hl]; exact r.length
  refine ⟨⟨e0.mod, S.kind, rfl, rfl, Nat.le_refl _, fun y z c h1 h2 => ?_, fun y hy => ?_, fun y c h _ => absurd (show false = true from h) Bool.false_ne_true, fun _ => hd, Around.frames_deeper e0.frames, .inr ⟨rfl, rfl⟩, fun b z => absurd z (noA b), e0.bs, e0.bsz, fun b _ _ => noA b, fun b z => absurd z (noA b), e0.funs, e0.frf⟩,
    rfl, e0.bare, Un.kept hk, ⟨_, hns, fun i y v h1 h2 h3 => ?_⟩, fun y c h => ?_, e0.hok.fresh (Nat.le_refl _), fun y c h => ?_, fun p hp => absurd (show p ∈ ([] : List (Addr × Obj)) from hp) (by simp), e0.hok.kept hk, ?_⟩
  · exact (cls_lookup h1).1.trans (cls_lookup h2).1.symm
  · have hy : scope.names.lookup y = some .cell ∨ scope.names.lookup y = some .free := hy
    rcases hy with hy | hy
    · exact absurd rfl (S.nocell _ (PySem.mem_of_lookup hy))
    · have e := S.free _ (PySem.mem_of_lookup hy) rfl
      refine ⟨cc, ?_⟩
      show ([(("__class__" : Str), cc)] : List (Str × Addr)).lookup y = some cc
      dsimp only at e
      rw [e]
      rfl
  · have hi : i < vs.length := by
      unfold L2.start at h2
      by_cases hi : i < vs.length
      · exact hi
      · rw [List.getElem?_append_right (by simpa using hi)] at h2
        rw [List.getElem?_replicate] at h2
        split at h2 <;> cases h2
    have ha : vs[i]? = some v := by
      unfold L2.start at h2
      rw [List.getElem?_append_left (by simpa using hi), List.getElem?_map] at h2
      cases e : vs[i]? with
      | none => rw [e] at h2; cases h2
      | some a => rw [e] at h2; cases h2; rfl
    obtain ⟨u, hu, rv⟩ := r.get ha
    have hp : ps[i]? = some y := by
      rw [← S.pre, List.getElem?_take_of_lt (by omega)]; exact h1
    refine ⟨u, rv, .inl ⟨S.par y (List.mem_of_getElem? hp), ?_⟩⟩
    have hm : (y, u) ∈ ps.zip us := by
      refine List.mem_iff_getElem?.mpr ⟨i, ?_⟩
      rw [List.getElem?_zip_eq_some]
      exact ⟨hp, hu⟩
    refine lookup_of_mem ?_ (List.mem_reverse.mpr hm)
    rw [List.map_reverse, zip_map_fst hul]
    exact List.pairwise_reverse.mpr (ndP.imp fun h => h.symm)
  · obtain ⟨_, rfl⟩ := cls_lookup h
    exact ⟨_, _, hk _ _ (e0.bs _ _ bcc).1, rfl⟩
  · obtain ⟨_, rfl⟩ := cls_lookup h
    exact (e0.bs _ _ bcc).2
  · unfold L2.start
    show _ = N.length
    rw [List.length_append, List.length_map, List.length_replicate]
    omega
end
/-- what the written part says of the class and of super() in its __init__ -/
structure SupC (K : PySem.W.Frag) (mg : Str → Option Value) (C cda cc : Addr) : Prop where
  ox : OexC K C
  sub : PySem.W.subIn K (.ref C) (.type "ValueError") = some true
  along : PySem.W.ks_superIn K C C "__init__" = some (some (.builtin "ValueError.__init__"))
  third : PySem.W.nsIn K cStatics "thirdparty.any" = some none
  su : mg "super" = none
  code : ∃ ccl cdd vs ccs tf, K.lookup cda = some ⟨ccl, cdd, .fields vs, ccs⟩ ∧ vs[2]? = some (.str "/claim/cut.py" tf)
  cell : ∃ cl cld csl, K.lookup cc = some ⟨cl, cld, .cell (some (.ref C)), csl⟩
/-- what it says of the program -/
structure SupP (P : Program) : Prop where
  file : ((P.main.file : Str) == ("/claim/cut.py" : Str)) = true
  top : (P.main.scope.names.lookup ("super" : Str)).isSome = false
theorem fn_sup {CX : CXT} {P : Program} {w : World} {K : PySem.W.Frag} {mg : Str → Option Value} {base : Heap} {k : Nat} {f cda cc C : Addr} {name qual : Str} {params : Arguments} {body : List Stmt} {scope : Scope} {dV kV doc pm ct oc : Value} {an od : Option Addr}
    {osl : Array (Option Value)} {N ps : List Str} {sp : Sp} {e : Expr} {p0 p1 p2 p3 p4 : Pos} {ar : Arg} (SC : SupC K mg C cda cc) (SP : SupP P)
    (lk : K.lookup f = some ⟨oc, od, .func (PySem.W.ksFn name qual params (.Expr (.Call (.Attribute (.Call (.Name "super" p0) [] [] p1) "__init__" p2) [e] [] p3) p4 :: body) scope dV kV doc pm an (.ref cda) ct cc), osl⟩)
    (hcd : PySem.W.codeIn K (.ref cda) qual = true) (S : FnScopeS N ps scope) (hp : (params.posonlyargs ++ params.args).head? = some ar) (hN : N[0]? = some ar.arg) (hka : scope.names.lookup ar.arg = some .local)
    {pl : Env → Sem Bool} (hst : ∀ env, starEach [e] env = [(false, eval e env)])
    (he : ∀ env : Env, eval (.Call (.Attribute (.Call (.Name "super" p0) [] [] p1) "__init__" p2) [e] [] p3) env = (do
      let ov ← attributeBase (.Call (.Name "super" p0) [] [] p1) "__init__" env (eval (.Call (.Name "super" p0) [] [] p1) env)
      standAt p2.atName
      let (f, first) ← holding [ov] (getMethod ov "__init__" (pl env))
      callWith p3 f first (backTo p3 (starEach [e] env)) []))
    (len : ∀ vs H Q E, sp vs H Q E → vs.length = ps.length)
    (hbody : ∀ (A : Around) (outer : List Env) (s : Shared) (H : Hp) (vs : List V) (Q : VK) (E : XK), Room k (A.deeper (PySem.W.ksEnv qual scope s.heap.objs.size f (.ref cda) cc)) → sp vs H Q E →
      ∃ ta t, PA (cxS CX P w K mg base N qual scope f (.ref cda) cc A outer s H E) [e] ta ∧ PSs (cxS CX P w K mg base N qual scope f (.ref cda) cc A outer s H E) body t ∧
        ∃ (x : Addr) (vs' : List V), vs = .ref x :: vs' ∧ H x = some (exo x C none) ∧ ta (start N vs) H fun ws H1 => ws.length ≤ 1000 ∧ H1 x = some (exo x C none) ∧ t { nx := fun _ H' => Q .non H', rt := Q } (start N vs) H1) :
    FnOk P w K mg base CX (k + 1) f (PySem.W.ksFn name qual params (.Expr (.Call (.Attribute (.Call (.Name "super" p0) [] [] p1) "__init__" p2) [e] [] p3) p4 :: body) scope dV kV doc pm an (.ref cda) ct cc) ps sp := by
  refine ⟨len, fun A outer s H args us vs Q E hr e0 hb r hsp => ?_⟩
  have hl := len _ _ _ _ hsp
  have KX : K.In s.heap := e0.mod.kin.keeps fun b o e => (e0.bs b o e).1
  have lim : s.heap.NoLimit := e0.mod.nolimit.keeps fun b o e => (e0.bs b o e).1
  obtain ⟨cl, cld, csl, lkc⟩ := SC.cell
  obtain ⟨ccl, cdd, cvs, ccs, tf, lkd, hfile⟩ := SC.code
  obtain ⟨nm, q, NN, bs, bm, sn, sub, ab, col, dd, k0, k1, k2, k3, k5, hC, hbm⟩ := SC.ox.cls
  have hcl : PySem.W.clsIn K C = some { name := nm, bases := bs, mro := .ref C :: bm, ns := NN, qualname := q, hasDict := true, slotNames := sn, subclasses := sub, abstract := ab, collection := col, hasDel := false } := by unfold PySem.W.clsIn; rw [hC] <;> rfl
  have hal : PySem.W.alongIn K "__init__" (((Value.ref C :: bm).dropWhile (· != .ref C)).drop 1) = some (some (.builtin "ValueError.__init__")) := by
    have z := SC.along
    unfold PySem.W.ks_superIn at z
    rw [hcl] at z
    exact z
  refine PySem.ks_codeAny_call_defAt (fd := PySem.W.ksFn name qual params (.Expr (.Call (.Attribute (.Call (.Name "super" p0) [] [] p1) "__init__" p2) [e] [] p3) p4 :: body) scope dV kV doc pm an (.ref cda) ct cc) (binds := ps.zip us) hr.depth (KX _ _ lk) rfl lim (PySem.W.codeRec_of KX hcd) rfl hb S.nocell
    (fun y hy => S.par _ (List.of_mem_zip hy).1) (fun h₁ hns hk₁ => ?_) S.co S.gen S.kind
  obtain ⟨ta, t, hta, hpss, x, vs', rfl, hx, hq⟩ := hbody A outer s H vs Q E (hr.deeper _) hsp
  have I : Inv (cxS CX P w K mg base N qual scope f (.ref cda) cc A outer s H E) [] (start N (.ref x :: vs')) H { s with heap := h₁, toks := s.toks + (ps.zip us).length } := inv_startS S hr.hd e0 hl r lkc hns hk₁
  have fin : ∀ {s' : Shared} {σ' : L2.St} {H' : Hp} {v : V} {u : Value}, Inv (cxS CX P w K mg base N qual scope f (.ref cda) cc A outer s H E) [] σ' H' s' → RelV v u → Q v H' → CE outer P w H s Q u s' :=
    fun {s' σ' H' v u} J rv q => ⟨v, H', J.os, J.bare, J.base, J.hok, rv, q⟩
  obtain ⟨t1, ho⟩ := exo_at I.hok hx
  show _root_.PySem.wpAt (model P w) (A.deeper (PySem.W.ksEnv qual scope s.heap.objs.size f (.ref cda) cc)) (.func _ (PySem.W.ksEnv qual scope s.heap.objs.size f (.ref cda) cc)) (execs _ (PySem.W.ksEnv qual scope s.heap.objs.size f (.ref cda) cc)) _ _ _
  refine PySem.ks_wpAt_execs_cons (PySem.ks_wpAt_Expr_any (PySem.ks_wpAt_MethodCall (PySem.ks_wpAt_super_base (env := PySem.W.ksEnv qual scope s.heap.objs.size f (.ref cda) cc) S.su S.cl (by decide) rfl (I.kIn _ _ lk) rfl hp rfl (I.kIn _ _ lkd) rfl hfile SP.file SP.top ?_) (he _)) (by simp [interactive, S.kind]))
  obtain ⟨mb, hb1, hb2⟩ := I.mod.blt
  refine PySem.W.ks_loadName_global S.kind S.su (Calls.loadGlobal_builtin (env := PySem.W.ksEnv qual scope s.heap.objs.size f (.ref cda) cc) (I.mod.glob.keeps I.bk) SC.su (hb1.keeps I.bk) ((hb2 "super" (by decide)).trans PyProof.Rows.Boot.«super») ⟨rfl, ?_⟩)
  refine wpAny_loadName_free S.kind S.cl rfl ⟨_, I.kIn _ _ lkc, rfl⟩ ?_
  obtain ⟨m, hn, hloc⟩ := I.loc
  have hself : m ar.arg = some (.ref x) := by
    obtain ⟨u, ru, lu⟩ := hloc 0 ar.arg (.ref x) hN rfl (.inl hka)
    obtain rfl : u = Value.ref x := ru
    rcases lu with ⟨_, lu⟩ | ⟨lu, _⟩
    · exact lu
    · have lu' : scope.names.lookup ar.arg = some .cell ∨ scope.names.lookup ar.arg = some .free := lu
      rw [hka] at lu'
      rcases lu' with z | z <;> cases z
  refine wpAny_loadName_local S.kind hka hn hself ?_
  refine PySem.ks_wpAny_isType_cls (I.kIn _ _ hC) rfl ⟨rfl, ?_⟩
  have hmro : PySem.W.mroIn K C (.ref C) = some true := by
    unfold PySem.W.mroIn
    rw [hcl, Option.bind_some]
    simp
  refine PySem.ks_wpAny_call_super (I.kIn _ _ hC) rfl ho rfl (fun c z => by cases z) (PySem.W.looks_mroIn I.kIn hmro) (fun h2 e2 kk2 => ?_)
  have I2 := I.kept (t' := s.toks + (ps.zip us).length) kk2
  have ho2 := kk2 _ _ ho
  have hI : PySem.W.Looks (model P w) h2 (isInstance (.ref x) (.type "ValueError")) true := (show PySem.W.InstAt h2 x _ C none from ⟨ho2, rfl, rfl, trivial⟩).type.andThen (PySem.W.looks_subIn I2.kIn SC.sub)
  have hxC : x ≠ C := fun z => by
    rw [z] at ho2
    have y := I2.kIn _ _ hC
    rw [ho2] at y
    cases y
  refine PySem.W.kxs_getMethod PySem.W.kxs_ValueError e2 (PySem.W.looks_opaque I2.kIn SC.third) (l₀ := .ref C :: bm) (fun A Q E s k q => wpAny_bind ((PySem.W.looks_clsIn (show K.In h2 from I2.kIn) hcl) A _ E s k (wpAny_pure q))) rfl I2.kIn hal hI hxC (by decide) ?_
  have e3 : (h2.push (PySem.W.kxs_mw "ValueError.__init__" x)).get? h2.objs.size = some (PySem.W.kxs_mw "ValueError.__init__" x) := Heap.get?_push_at rfl rfl
  have hfr : H h2.objs.size = none := I2.hok.fresh (Nat.le_refl _)
  have hlo : h2.objs.size ≠ (PySem.W.ksEnv qual scope s.heap.objs.size f (.ref cda) cc).locals := fun z => by
    have y := I2.lt
    rw [show (cxS CX P w K mg base N qual scope f (.ref cda) cc A outer s H E).env.locals = h2.objs.size from z.symm] at y
    exact Nat.lt_irrefl _ y
  have hfs : h2.objs.size ∉ (cxS CX P w K mg base N qual scope f (.ref cda) cc A outer s H E).fs := I2.nofs (Nat.le_refl _)
  have I3 := (I2.kept (t' := s.toks + (ps.zip us).length + 1) (h' := h2.push (PySem.W.kxs_mw "ValueError.__init__" x)) fun b o z => Heap.get?_push_of_some _ z)
  have I4 : Inv (cxS CX P w K mg base N qual scope f (.ref cda) cc A outer s H E) [(h2.objs.size, PySem.W.kxs_mw "ValueError.__init__" x)] _ H _ := I3.pins_of fun p hp => by
    rcases List.mem_singleton.mp hp with rfl
    exact ⟨e3, hfr, hlo, hfs, fun v z => by cases z⟩
  have hrun := hta.run p3 _ _ _ H _ I4 hq
  rw [hst] at hrun
  rw [hst]
  refine PySem.W.kxs_callWith (i := "ValueError.__init__") (x := x) rfl (PySem.Calls.evalArgs_plain (thn hrun fun us2 s3 ⟨ws, H1, I5, r5, hlen, hx1, hq1⟩ => ⟨?_, ?_⟩))
  · exact (I5.pin _ (List.mem_append_right _ (List.mem_singleton.mpr rfl))).1
  have hu5 : s3.heap.get? h2.objs.size = some (PySem.W.kxs_mw "ValueError.__init__" x) := (I5.pin _ (List.mem_append_right _ (List.mem_singleton.mpr rfl))).1
  obtain ⟨t5, ho5⟩ := exo_at I5.hok hx1
  obtain ⟨hp5, g5, d5, tk5, os5⟩ := s3
  have hl5 : us2.length ≤ sizeLine := by
    rw [← Paired.length r5, sizeLine_eq]
    omega
  refine call_mw (I5.kIn _ _ hC) ho5 hu5 hl5 fun h6 t6 k6 hx6 => ?_
  have J := I5.write (t' := tk5) (x := x) (e := x) (o := exo x C none) (by rw [hx1]; exact True.intro) (.inl rfl) k6 ⟨_, hx6⟩ (exo_ok hx6)
  have eu : upd H1 x (exo x C none) = H1 := by
    funext b
    by_cases hb : b = x
    · rw [hb, upd_same, hx1]
    · rw [upd_ne hb]
  rw [eu] at J
  have J0 : Inv (cxS CX P w K mg base N qual scope f (.ref cda) cc A outer s H E) [] _ H1 _ := J.pins_of fun p hp => absurd hp (by simp)
  refine wpAt_of_wpAny (wpAny_mono (hpss.run [] _ _ H1 _ J0 hq1) (fun fl s' hs => ?_) fun e s' hs => hs)
  cases fl with
  | ret u =>
    obtain ⟨v, σ', H', J, rv, q⟩ := hs
    exact fin J rv q
  | next =>
    obtain ⟨σ', H', J, q⟩ := hs
    exact fin (v := V.non) (u := Value.none) J rfl q
  | brk =>
    obtain ⟨_, _, _, q⟩ := hs
    exact False.elim q
  | cont =>
    obtain ⟨_, _, _, q⟩ := hs
    exact False.elim q
end DP
namespace DP
open PySem PySem.Spec PyProof.Rows L2
section
variable {X : Cx} {CX : CXT} {x : Str} {e : Expr} {es : List Expr} {ta : TA} {p pos : Pos} {C fI : Addr} {k : Nat} {fd : FuncData} {ps : List Str} {sp : Sp}
/-- an own error with an own __init__, made where nothing is handled -/
theorem pmkN_oex (T : OexC X.K C) (iC : PySem.W.findIn X.K (.ref C) "__init__" = some (some (.ref fI))) (tI : PySem.W.typeIn X.K (.ref fI) = some (.type "function"))
    (F1 : FnOk X.prog X.w X.K X.mg X.base CX k fI fd ps sp) (hr : Room (k + 1) X.A) (hb : Binds X.K fd ps []) (hx : Passes CX X (fun _ _ _ => False)) (hg : Gl X x) (hm : X.mg x = some (.ref C)) (ha : PA X (e :: es) ta)
    (hdb : (x == ("__debug__" : Str)) = false := by decide) (he : starEach (e :: es) X.env = (false, eval e X.env) :: starEach es X.env := by rfl) (hpl : (backTo pos (starEach es X.env)).any (·.1) = false := by rfl) :
    L2N.PMk X (.Call (.Name x p) (e :: es) [] pos) (tMkO C sp [] ta) := by
  intro pn0 st σ H0 R J w0
  obtain ⟨_, _, _, _, bm, _, _, _, _, _, _, _, _, _, _, cC, cB⟩ := T.cls
  refine wpAny_Call_Name_kw (ld_glob J hg hm (PySem.W.callWith_K (h₀ := X.base) J.ok.mod.kin T.kC (thn (ha.run pos pn0 st σ H0 _ J w0) fun us t1 z => ?_) he hpl) hdb)
  obtain ⟨vs, H1, J1, rv, lz, w1⟩ := z
  refine ⟨J1.kIn, ?_⟩
  show wpAny _ _ (call (.ref C) us) _ _ _
  rcases t1 with ⟨hh, gg, dr, tt, oo⟩
  obtain ⟨n, hn⟩ : ∃ n, n = hh.objs.size := ⟨_, rfl⟩
  have le1 : hh.objs.size ≤ n + 1 := by omega
  have free : H1 (n + 1) = none := J1.hok.fresh le1
  have w2 := w1 (n + 1) free
  rw [List.append_nil] at w2
  have grow : ∀ b o, hh.get? b = some o → ((hh.push (PySem.W.kdv_tup us)).push (PySem.HandSPX.excO C n)).get? b = some o := by
    intro b o z
    exact Heap.get?_push_of_some _ (Heap.get?_push_of_some _ z)
  have got : ((hh.push (PySem.W.kdv_tup us)).push (PySem.HandSPX.excO C n)).get? (n + 1) = some (PySem.HandSPX.excO C n) := by
    rw [hn]
    heap_get
  have J2 := J1.laid (t' := tt) (o := exo (n + 1) C none) grow le1 (exo_ok got)
  have rv2 : Vals (V.ref (n + 1) :: vs) (Value.ref (n + 1) :: us) := .cons rfl rv
  have ll : (Value.ref (n + 1) :: us ++ []).length = ps.length := by
    have z := rv2.length
    rw [F1.len _ _ _ _ w2] at z
    rw [List.append_nil, ← z]
  have lu : us.length ≤ sizeLine := by
    have z := Paired.length rv
    have z2 := sizeLine_eq
    omega
  have bt := hb _ (Value.ref (n + 1) :: us) J2.kIn ll
  rw [List.append_nil] at bt
  have body := F1.run _ X.stack _ _ ⟨Value.ref (n + 1) :: us, []⟩ (Value.ref (n + 1) :: us) _ _ (fun _ _ _ => False) (hr.make C us []) (J2.env0.make C us []) bt rv2 w2
  rw [hn] at body
  refine wpAny_call (PySem.HandSPX.call_own F.excBase_ValueError (fun Y => PySem.HandSPX.refsVE_contains Y bm cB) (J1.kIn _ _ cC) (PySem.W.looks_findIn J1.kIn iC) (fun self => PySem.W.bind_fn J1.kIn self tI) lu (codeAny_mono body fun r t2 y => ?_))
  rw [← hn] at y
  cases r with
  | error er => exact hx pn0 σ _ _ er t2 J2 y
  | ok fl =>
    cases fl with
    | next => exact y.elim
    | brk => exact y.elim
    | cont => exact y.elim
    | ret u =>
      obtain ⟨v, H2, os2, bare2, un2, hok2, rr, ev, d, fs, a1, a2, a3, w3⟩ := y
      subst ev
      rcases t2 with ⟨h2, g2, d2, t2, o2⟩
      obtain ⟨t0, G, J3, kG, gn, go, na⟩ := mk_end0 (d2 := d2) (t2 := t2) J1 le1 grow un2 hok2 os2 bare2 a1 a2 a3
      rw [← hn]
      exact ⟨rr, n + 1, _, _, ⟨G, g2, d2, t2, o2⟩, _, .ref C, some d, rfl, J3, kG, gn, go, ⟨rfl, rfl, fun ws z => by cases z; rfl⟩, rfl, rfl, na, rfl, bare2, raises_own T.exC T.tyC, w3⟩
end
section
variable {P : Program} {w : World} {K : PySem.W.Frag} {mg : Str → Option Value} {base : Heap} {x : Str} {st : Stmt} {ps N : List Str} {k : Nat} {sp : Sp}
/-- a call within a try -/
theorem pe_fSN {X : Cx} {W : WX} {e : Expr} {es : List Expr} {t : TA} {p pos : Pos} (D : DefOk X.prog X.w X.K X.mg X.base (L2N.CX X.prog X.w) k x ps sp) (hr : Room k X.A) (tk : L2N.Takes X W) (ha : PA X (e :: es) t)
    (hg : Gl X x := by rfl) (hdb : (x == ("__debug__" : Str)) = false := by decide) (he : starEach (e :: es) X.env = (false, eval e X.env) :: starEach es X.env := by rfl) (hpl : (backTo pos (starEach es X.env)).any (·.1) = false := by rfl) :
    PE X (.Call (.Name x p) (e :: es) [] pos) (tCallS sp (WE W) t) := by
  obtain ⟨f, fd, G, m, kp, b, _⟩ := D.ex
  exact pe_callS G hr hg m kp b (fun σ => L2N.passAt tk σ) ha hdb he hpl
/-- a def's body where errors' context is None -/
theorem fun_okN {qual : Str} {f : Addr} {fd : FuncData} (F : Fun K x qual st f fd) (S : FnScope N ps (defScope st)) (len : ∀ vs H Q E, sp vs H Q E → vs.length = ps.length)
    (hb : ∀ (cdv : Value) (A : Around) (outer : List Env) (s : Shared) (H : Hp) (vs : List V) (Q : VK) (E : XK), Room k (A.deeper (envOfC qual (defScope st) s.heap.objs.size f cdv)) → sp vs H Q E → ∃ t, PSs (cxOf (L2N.CX P w) P w K mg base N qual (defScope st) f cdv A outer s H E) (defBody st) t ∧ t { nx := fun _ H' => Q .non H', rt := Q } (start N vs) H) :
    FnOk P w K mg base (L2N.CX P w) (k + 1) f fd ps sp := by
  obtain ⟨_, _, _, _, _, _, cdv, _, _, e, lk, cd⟩ := F.ex
  subst e
  exact fn_of lk cd S len fun A outer s H vs Q E hr h => hb cdv A outer s H vs Q E hr h
/-- a def where an exception is handled -/
structure DefH (P : Program) (w : World) (K : PySem.W.Frag) (mg : Str → Option Value) (base : Heap) (CX : CXT) (k : Nat) (x : Str) (ps : List Str) (sp : Sp) : Prop where
  ex : ∃ f fd, L2H.FnH P w K mg base CX k f fd ps sp ∧ mg x = some (.ref f) ∧ PySem.W.keepIn K (.ref f) = true ∧ Binds K fd ps []
theorem At.okH (F : At K mg x st ps) (S : FnScope N ps (defScope st)) (len : ∀ vs H Q E, sp vs H Q E → vs.length = ps.length)
    (hbody : ∀ (f : Addr) (cdv : Value) (A : Around) (outer : List Env) (s : Shared) (H : Hp) (vs : List V) (Q : VK) (E : XK) (p : Addr × Obj), L2H.HotC (L2H.cxH CX0 P w K mg base N x (defScope st) f cdv A outer s H E p) → L2H.RoomH k (A.deeper (envOfC x (defScope st) s.heap.objs.size f cdv)) → sp vs H Q E →
      ∃ t, PSs (L2H.cxH CX0 P w K mg base N x (defScope st) f cdv A outer s H E p) (defBody st) t ∧ t { nx := fun _ H' => Q .non H', rt := Q } (start N vs) H) : DefH P w K mg base CX0 (k + 1) x ps sp := by
  obtain ⟨f, fd, G, m, b⟩ := F.ex
  have kp := G.kp
  obtain ⟨oc, od, kV, dc, pm, an, cdv, ct, osl, rfl, lk, cd⟩ := G.ex
  exact ⟨f, _, L2H.fn_ofH lk cd S len fun A outer s H vs Q E p hot hr h => hbody f cdv A outer s H vs Q E p ⟨p, ⟨hot.1, hot.2⟩, List.mem_singleton.mpr rfl⟩ hr h, m, kp, b⟩
theorem pe_fH {X : Cx} {e : Expr} {es : List Expr} {t : TA} {p pos : Pos} (D : DefH X.prog X.w X.K X.mg X.base CX0 k x ps sp) (hr : L2H.RoomH k X.A) (hc : L2H.HotC X) (ha : PA X (e :: es) t)
    (hg : Gl X x := by rfl) (hdb : (x == ("__debug__" : Str)) = false := by decide) (he : starEach (e :: es) X.env = (false, eval e X.env) :: starEach es X.env := by rfl) (hpl : (backTo pos (starEach es X.env)).any (·.1) = false := by rfl) :
    PE X (.Call (.Name x p) (e :: es) [] pos) (tCallS sp (fun _ _ _ _ => False) t) := by
  obtain ⟨f, fd, G, m, kp, b⟩ := D.ex
  exact L2H.pe_callH G hr hc hg m kp b (fun σ _ _ _ _ _ _ z => z.elim) ha hdb he hpl
end
end DP
namespace DP
open PySem PySem.Spec PyProof.Rows L2
abbrev s_TextFault___init__ : Stmt := inClass (topS 2) 0
theorem sc_TextFault___init__ : FnScopeS ["self", "line", "column", "reason"] ["self", "line", "column", "reason"] (defScope s_TextFault___init__) := ⟨rfl, rfl, rfl, by decide +kernel, rfl, by decide +kernel, by decide +kernel, by decide +kernel, by decide +kernel, by decide +kernel⟩
abbrev s_Line_refuse : Stmt := inClass (topS 11) 1
theorem sc_Line_refuse : FnScope ["self", "reason"] ["self", "reason"] (defScope s_Line_refuse) := ⟨rfl, rfl, rfl, by decide +kernel, rfl, by decide +kernel, by decide +kernel⟩
def tfF (l c : Int) (r : Str) : List (Str × V) := [("reason", .str r), ("column", .int c), ("line", .int l)]
structure TfAt (K : PySem.W.Frag) (mg : Str → Option Value) (CT : Addr) : Prop where
  g : mg "TextFault" = some (.ref CT)
  ex : ∃ (fI cda cc : Addr) (oc kV doc pm ct : Value) (od an : Option Addr) (osl : Array (Option Value)), PySem.W.findIn K (.ref CT) "__init__" = some (some (.ref fI)) ∧ PySem.W.typeIn K (.ref fI) = some (.type "function") ∧
    K.lookup fI = some ⟨oc, od, .func (PySem.W.ksFn "__init__" "TextFault.__init__" (defArgs s_TextFault___init__) (defBody s_TextFault___init__) (defScope s_TextFault___init__) .none kV doc pm an (.ref cda) ct cc), osl⟩ ∧
    PySem.W.codeIn K (.ref cda) "TextFault.__init__" = true ∧ SupC K mg CT cda cc
  nl : PySem.W.findIn K (.ref CT) "line" = some none
  nc : PySem.W.findIn K (.ref CT) "column" = some none
  nr : PySem.W.findIn K (.ref CT) "reason" = some none
  xf : XfC K CT
  iT : PySem.W.isClsIn K CT = true
  sT : PySem.W.subIn K (.ref CT) (.ref CT) = some true
  bT : PySem.W.subIn K (.ref CT) (.type "BaseException") = some true
  tT : PySem.W.typeIn K (.ref CT) = some (.type "type")
theorem TfAt.te {K : PySem.W.Frag} {mg : Str → Option Value} {CB : Addr} (T : TfAt K mg CB) : PySem.W.exmOne K (.ref CB) (.ref CB) = some true := by
  have e1 : (PySem.W.subIn K (.ref CB) (.type "BaseException") == some true) = true := by rw [T.bT] <;> rfl
  have e2 : ((PySem.W.clsIn K CB).isSome && PySem.W.typeIn K (.ref CB) == some (.type "type")) = true := by
    have h2' : (PySem.W.clsIn K CB).isSome = true := T.iT
    rw [h2', T.tT] <;> rfl
  show (if (PySem.W.subIn K (.ref CB) (.type "BaseException") == some true) = true then (if ((PySem.W.clsIn K CB).isSome && PySem.W.typeIn K (.ref CB) == some (.type "type")) = true then PySem.W.subIn K (.ref CB) (.ref CB) else none) else none) = some true
  rw [if_pos e1, if_pos e2]
  exact T.sT
section
variable {P : Program} {w : World} {K : PySem.W.Frag} {mg : Str → Option Value} {base : Heap} {C CT : Addr}
theorem MAt.okX {C : Addr} {m qual : Str} {st : Stmt} {ps N : List Str} {k : Nat} {sp : Sp} (F : MAt K C m qual st ps) (S : FnScope N ps (defScope st)) (len : ∀ vs H Q E, sp vs H Q E → vs.length = ps.length)
    (hbody : ∀ (f : Addr) (cdv : Value) (A : Around) (outer : List Env) (s : Shared) (H : Hp) (vs : List V) (Q : VK) (E : XK), Room k (A.deeper (envOfC qual (defScope st) s.heap.objs.size f cdv)) → sp vs H Q E →
      ∃ t, PSs (cxOf (L2N.CX P w) P w K mg base N qual (defScope st) f cdv A outer s H E) (defBody st) t ∧ t { nx := fun _ H' => Q .non H', rt := Q } (start N vs) H) : MDef P w K mg base (L2N.CX P w) (k + 1) C m ps [] sp := by
  obtain ⟨f, fd, G, M, b⟩ := F.ex
  exact ⟨f, fd, [], fun_okN G S len (fun cdv A outer s H vs Q E hr h => hbody f cdv A outer s H vs Q E hr h), M, b, .nil⟩
theorem At.okX {x : Str} {st : Stmt} {ps N : List Str} {k : Nat} {sp : Sp} (F : At K mg x st ps) (S : FnScope N ps (defScope st)) (len : ∀ vs H Q E, sp vs H Q E → vs.length = ps.length)
    (hbody : ∀ (f : Addr) (cdv : Value) (A : Around) (outer : List Env) (s : Shared) (H : Hp) (vs : List V) (Q : VK) (E : XK), Room k (A.deeper (envOfC x (defScope st) s.heap.objs.size f cdv)) → sp vs H Q E →
      ∃ t, PSs (cxOf (L2N.CX P w) P w K mg base N x (defScope st) f cdv A outer s H E) (defBody st) t ∧ t { nx := fun _ H' => Q .non H', rt := Q } (start N vs) H) : DefOk P w K mg base (L2N.CX P w) (k + 1) x ps sp := by
  obtain ⟨f, fd, G, m, b⟩ := F.ex
  obtain ⟨oc, od, _, _, _, _, _, _, osl, _, lk, _⟩ := G.ex
  exact ⟨f, fd, fun_okN G S len (fun cdv A outer s H vs Q E hr h => hbody f cdv A outer s H vs Q E hr h), m, G.kp, b, oc, od, osl, lk⟩
theorem DefOk.up {x : Str} {ps : List Str} {k : Nat} {sp : Sp} (D : DefOk P w K mg base CX0 k x ps sp) {CX : CXT} : DefOk P w K mg base CX k x ps sp := by
  obtain ⟨f, fd, G, m, kp, b, lk⟩ := D.ex
  refine ⟨f, fd, ⟨G.len, fun A outer s H args us vs Q E hr he hb hv h => codeAny_mono (G.run A outer s H args us vs Q E hr he hb hv h) fun r s' hq => ?_⟩, m, kp, b, lk⟩
  cases r with
  | error e => exact hq.elim
  | ok fl => cases fl <;> exact hq
theorem MDef.up {C : Addr} {m : Str} {ps : List Str} {ds : List V} {k : Nat} {sp : Sp} (D : MDef P w K mg base CX0 k C m ps ds sp) {CX : CXT} : MDef P w K mg base CX k C m ps ds sp := by
  obtain ⟨f, fd, us, G, M, b, v⟩ := D.ex
  refine ⟨f, fd, us, ⟨G.len, fun A outer s H args us vs Q E hr he hb hv h => codeAny_mono (G.run A outer s H args us vs Q E hr he hb hv h) fun r s' hq => ?_⟩, M, b, v⟩
  cases r with
  | error e => exact hq.elim
  | ok fl => cases fl <;> exact hq
theorem passOut {X : Cx} {E : XK} (hs : X.stack = X.env :: X.outer) (hf : X.env.frame = some X.env.locals) (hex : X.ex = []) {E₁ : Value → Shared → Prop}
    (hx : X.xe = fun e s' => wpAny (model X.prog X.w) X.A (leaving X.env e) (fun _ s'' => L2N.CX X.prog X.w X.outer X.H_0 X.s_0 E e s'') E₁ s') : Passes (L2N.CX X.prog X.w) X E :=
  L2N.passes_call (L2N.takes_of hs hf hex hx) fun _ _ _ _ h => h
theorem tos_len {n : Int} (h0 : 0 ≤ n) (h1 : n < 1000000000) : (Str.ofString (toString n)).length ≤ 9 := by
  rw [TL.len_tl, show TL.tl (Str.ofString (toString n)) = tl (num n) from rfl, num_nat h0]
  exact TL.numL_len (k := 9) (by decide) (by omega)
theorem log_lt {n : Int} (h0 : 0 ≤ n) (h1 : n < 1000000000) : n.natAbs.log2 < 1920 := by
  have : n.natAbs < 2 ^ 30 := by omega
  have h2 : n.natAbs.log2 < 30 ∨ n.natAbs = 0 := by
    by_cases c : n.natAbs = 0
    · exact .inr c
    · exact .inl ((Nat.log2_lt c).mpr this)
  rcases h2 with h2 | h2
  · omega
  · rw [h2]; decide
def spTF (CT : Addr) : Sp := fun vs H Q _ => ∃ (x : Addr) (l c : Int) (r : Str), vs = [.ref x, .int l, .int c, .str r] ∧ H x = some (exo x CT none) ∧ 0 ≤ l ∧ l < 1000000000 ∧ 0 ≤ c ∧ c < 1000000000 ∧ r.length ≤ 100 ∧
  ∀ dx, H dx = none → dx ≠ x → Q .non (upd (upd (upd (upd H dx (exd dx [("line", .int l)])) x (exo x CT (some dx))) dx (exd dx [("column", .int c), ("line", .int l)])) dx (exd dx (tfF l c r)))
theorem len_app (a b : Str) : (a ++ b).length = a.length + b.length := by
  rw [TL.len_tl, TL.len_tl, TL.len_tl, show TL.tl (a ++ b) = TL.tl a ++ TL.tl b from TL.tl_append _ _, List.length_append]
theorem d_TF (T : TfAt K mg CT) (SP : SupP P) {CX : CXT} : ∃ fI fd, PySem.W.findIn K (.ref CT) "__init__" = some (some (.ref fI)) ∧ PySem.W.typeIn K (.ref fI) = some (.type "function") ∧ OexC K CT ∧ Binds K fd ["self", "line", "column", "reason"] [] ∧
    FnOk P w K mg base CX 1 fI fd ["self", "line", "column", "reason"] (spTF CT) := by
  obtain ⟨fI, cda, cc, oc, kV, doc, pm, ct, od, an, osl, h1, h2, lk, hcd, SC⟩ := T.ex
  refine ⟨fI, _, h1, h2, SC.ox, Binds.all fun us hl => ?_, fn_sup (k := 0) (pl := fun _ => _) SC SP lk hcd sc_TextFault___init__ rfl rfl (by decide +kernel) (fun _ => rfl) (fun _ => rfl) (fun vs H Q E h => ?_) (fun A outer s H vs Q E hr h => ?_)⟩
  · exact match us, hl with | [_, _, _, _], _ => rfl
  · obtain ⟨x, l, c, r, rfl, _⟩ := h
    rfl
  obtain ⟨x, l, c, r, rfl, hx, l0, l1, c0, c1, hr, q⟩ := h
  refine ⟨_, _, pa_cons (pe_joined (PJ.cons pe_str (PJ.cons (pe_fmt (pv 1)) (PJ.cons pe_str (PJ.cons (pe_fmt (pv 2)) (PJ.cons pe_str (PJ.cons (pe_fmt (pv 3)) PJ.nil))))))) pa_nil,
    pss_cons (ps_ost (pv 0) (pv 1)) (pss_cons (ps_ost (pv 0) (pv 2)) (pss_one (ps_ost (pv 0) (pv 3)))), x, _, rfl, hx, ?_⟩
  have e1 : (Str.ofString "line ").length = 5 := by decide +kernel
  have e2 : (Str.ofString ", column ").length = 9 := by decide +kernel
  have e3 : (Str.ofString ": ").length = 2 := by decide +kernel
  have e0 : Str.empty.length = 0 := by decide +kernel
  have hl := tos_len l0 l1
  have hc := tos_len c0 c1
  have z := sizeLine_eq
  refine ⟨_, rfl, (by simp only [len_app]; omega), _, rfl, .inr ⟨_, rfl, log_lt l0 l1, _, rfl, (by simp only [len_app]; omega), ?_⟩⟩
  refine ⟨_, rfl, (by simp only [len_app]; omega), _, rfl, .inr ⟨_, rfl, log_lt c0 c1, _, rfl, (by simp only [len_app]; omega), ?_⟩⟩
  refine ⟨_, rfl, (by simp only [len_app]; omega), _, rfl, .inl ⟨_, rfl, (by omega), _, rfl, (by simp only [len_app]; omega), ?_⟩⟩
  refine ⟨by show 1 ≤ 1000; decide, hx, ?_⟩
  refine ⟨_, rfl, _, rfl, x, CT, rfl, SC.ox, T.nl, .inl ⟨hx, fun dx n ne => ?_⟩⟩
  refine ⟨_, rfl, _, rfl, x, CT, rfl, SC.ox, T.nc, .inr ⟨dx, _, upd_same, (upd_ne ne).trans upd_same, by show 1 ≤ 900; decide, ?_⟩⟩
  refine ⟨_, rfl, _, rfl, x, CT, rfl, SC.ox, T.nr, .inr ⟨dx, _, (upd_ne (Ne.symm ne)).trans upd_same, upd_same, by show 2 ≤ 900; decide, ?_⟩⟩
  exact q dx n ne
def FltE (CT : Addr) (E : XK) (S : Hp → Prop) (l c : Int) (r : Str) : Prop := ∀ d H', S H' → H' d = some (.xd (tfF l c r)) → E (.ref CT) (some d) H'
/-- the line at a, as far as r words, in the text's words -/
def colW (ws : List Str) (r : Nat) : Int := 1 + (((ws.take r).map fun w => (w.length : Int) + 1).sum)
structure LnX (C : Addr) (H : Hp) (a : Addr) (n : Int) (ws : List Str) (r : Nat) : Prop where
  ex : ∃ dx wl, H a = some (.ins C dx (lnF n wl r (colW ws r))) ∧ H wl = some (.lst (ws.map V.str))
  n0 : 0 ≤ n
  n1 : n < 1000000
  le : r ≤ ws.length
  wl : ∀ w ∈ ws, w.length ≤ 40
  sz : ws.length ≤ 2000
theorem LnX.same {C : Addr} {H H' : Hp} {a : Addr} {n : Int} {ws : List Str} {r : Nat} (h : LnX C H a n ws r) (s : Same H H') : LnX C H' a n ws r := by
  obtain ⟨dx, wl, h1, h2⟩ := h.ex
  exact ⟨⟨dx, wl, s _ _ h1, s _ _ h2⟩, h.n0, h.n1, h.le, h.wl, h.sz⟩
theorem sum_le {m : Int} : ∀ (l : List Int), (∀ x ∈ l, 0 ≤ x ∧ x ≤ m) → 0 ≤ l.sum ∧ l.sum ≤ l.length * m
  | [], _ => by simp
  | a :: r, h => by
    have h1 := h a List.mem_cons_self
    have h2 := sum_le r fun x hx => h x (List.mem_cons_of_mem _ hx)
    rw [List.sum_cons, List.length_cons, Int.natCast_add, Int.add_mul]
    omega
theorem LnX.col {C : Addr} {H : Hp} {a : Addr} {n : Int} {ws : List Str} {r : Nat} (h : LnX C H a n ws r) : 0 ≤ colW ws r ∧ colW ws r < 1000000 := by
  have h1 := sum_le (m := 41) ((ws.take r).map fun w => (w.length : Int) + 1) fun x hx => by
    obtain ⟨w, hw, rfl⟩ := List.mem_map.mp hx
    have := h.wl w (List.mem_of_mem_take hw)
    omega
  have h2 := h.sz
  rw [List.length_map, List.length_take] at h1
  unfold colW
  have h3 : ((min r ws.length : Nat) : Int) * 41 ≤ 2000 * 41 := Int.mul_le_mul_of_nonneg_right (by omega) (by decide)
  omega
theorem LnX.no {C : Addr} {H : Hp} {a : Addr} {n : Int} {ws : List Str} {r : Nat} (h : LnX C H a n ws r) {m : Str} (z1 : (m == ("number" : Str)) = false) (z2 : (m == ("words" : Str)) = false) (z3 : (m == ("read" : Str)) = false) (z4 : (m == ("column" : Str)) = false) :
    ∃ dx fs, H a = some (.ins C dx fs) ∧ fs.lookup m = none := by
  obtain ⟨dx, wl, h1, h2⟩ := h.ex
  exact ⟨dx, _, h1, lnF_no z1 z2 z3 z4⟩
def spRefuse (C CT : Addr) : Sp := fun vs H _ E => ∃ (a : Addr) (n : Int) (ws : List Str) (r : Nat) (e : Str), vs = [.ref a, .str e] ∧ LnX C H a n ws r ∧ e.length ≤ 100 ∧ FltE CT E (Same H) n (colW ws r) e
theorem d_refuse (T : TxtL K mg C) (TF : TfAt K mg CT) (SP : SupP P) (A : MAt K C "refuse" "Line.refuse" s_Line_refuse ["self", "reason"]) : MDef P w K mg base (L2N.CX P w) 3 C "refuse" ["self", "reason"] [] (spRefuse C CT) := by
  have B := T.B
  refine A.okX sc_Line_refuse (fun vs H Q E h => ?_) (fun f cdv A outer s H vs Q E hr h => ?_)
  · obtain ⟨a, n, ws, r, e, rfl, _⟩ := h
    rfl
  obtain ⟨a, n, ws, r, e, rfl, hL, he, qe⟩ := h
  obtain ⟨dx, wl, h1, h2⟩ := hL.ex
  obtain ⟨fI, fd, i1, i2, ox, bd, F1⟩ := d_TF (w := w) (base := base) (CX := CX0) TF SP
  refine ⟨_, pss_one (L2N.ps_raise rfl (L2N.takes_of rfl rfl rfl rfl) (pmkN_oex ox i1 i2 F1 (hr.mono (by omega)) bd pass0 rfl TF.g (pa_cons (pe_fld (pv 0) rfl) (pa_cons (pe_fld (pv 0) rfl) (pa_cons (pv 1) pa_nil)))))
    , ?_⟩
  obtain ⟨c0, c1⟩ := hL.col
  have n0 := hL.n0
  have n1 := hL.n1
  refine ⟨_, rfl, a, C, dx, _, _, rfl, h1, T.c_Line.cl, T.n_number, lnF_number, _, rfl, a, C, dx, _, _, rfl, h1, T.c_Line.cl, T.n_column, lnF_column, _, rfl, (by show 3 ≤ 1000; decide), fun x hx => ?_⟩
  refine ⟨x, n, colW ws r, e, rfl, upd_same, n0, by omega, c0, by omega, he, fun d hd dne => ?_⟩
  have hdH : H d = none := by rw [upd_ne dne] at hd; exact hd
  refine ⟨rfl, d, _, (upd_ne (Ne.symm dne)).trans ((upd_ne (Ne.symm dne)).trans upd_same), upd_same, hdH, qe d _ (fun b o hb => ?_) upd_same⟩
  have b1 : b ≠ x := ne_of_none hb hx
  have b2 : b ≠ d := ne_of_none hb hdH
  rw [upd_ne b2, del_ne b1, upd_ne b2, upd_ne b2, upd_ne b1, upd_ne b2, upd_ne b1]
  exact hb
end
end DP
namespace DP
open PySem PySem.Spec PyProof.Rows L2
def digC (c : Nat) : Bool := decide (c ∈ ("0123456789" : Str).cps.toList)
def letC (c : Nat) : Bool := decide (c ∈ ("abcdefghijklmnopqrstuvwxyzABCDEFGHIJKLMNOPQRSTUVWXYZ" : Str).cps.toList)
def isNumB (u : Str) : Bool := !decide (7 < u.length) && (!(decide ((tl u).head? = some 48) && !decide (u = Str.ofString "0")) && (tl u).all digC)
def isNameB (u : Str) : Bool := !decide (15 < u.length) && ((match (tl u).head? with | some d => letC d | none => false) && (tl u).all fun c => letC c || digC c)
section
variable {P : Program} {w : World} {K : PySem.W.Frag} {mg : Str → Option Value} {base : Heap} {C : Addr}
def spIsNumX : Sp := fun vs H Q _ => ∃ u : Str, vs = [.str u] ∧ u.length ≤ 100 ∧ tl u ≠ [] ∧ ∀ H', Same H H' → Q (.bl (isNumB u)) H'
theorem d_is_numberX (T : TxtL K mg C) (A : At K mg "is_number" s_is_number ["word"]) : DefOk P w K mg base CX0 1 "is_number" ["word"] spIsNumX := by
  have B := T.B
  refine A.ok sc_is_number (fun vs H Q E h => ?_) (fun f cdv A outer s H vs Q E hr h => ?_)
  · obtain ⟨n, rfl, _⟩ := h
    rfl
  obtain ⟨u, rfl, hlen, hne, q⟩ := h
  refine ⟨_, pss_cons (ps_if (PW.pt (pw_or (pt_cmpR op_gt (pe_callB (call_len_str) (by rfl) B.len (by decide +kernel) (pa_cons (pv 0) pa_nil)) (pe_gi T.g_MOST_DIGITS) (nomark _)) (pw_or1 (PW.pt (pw_and (pt_cmpR op_eq (pe_ix ix_str (pv 0) pe_int (fun _ _ => rfl)) pe_str (nomark _)) (pw_and1 (pt_cmpR op_ne (pv 0) pe_str (nomark _))))))))
      (pss_one (ps_ret pe_bl))
      (pss_nil))
  (pss_one (ps_ret (pe_callB (cr_all rfl) (by rfl) B.all (by decide +kernel) (pa_cons (pe_lc (own := [("letter", 1)])  rfl sc_is_number.nd (pi_str (pv 0)) (blkOk_by (own := [("letter", 1)]) (N := ["word", "letter"]) (sc := defScope s_is_number) (by decide +kernel)) (fun _ _ _ _ _ => pg_name (i := 1) sc_is_number.nd rfl (Or.inl rfl)) (fun _ _ _ _ _ => pts_nil) (fun _ _ _ _ _ => (pe_cmpR op_in_sign (pv 1) (pe_gs T.g_DIGITS) (by rfl)))) pa_nil))))
    , ?_⟩
  obtain ⟨d, ds, e⟩ : ∃ d ds, tl u = d :: ds := by
    cases e : tl u with
    | nil => exact absurd e hne
    | cons d ds => exact ⟨d, ds, rfl⟩
  have hd : atI u.cps.toList 0 = some d := by
    show atI (tl u) 0 = some d
    rw [e]
    exact atI_nat (j := 0) rfl
  have hz : Str.ofString "0" = ⟨#[48]⟩ := by decide +kernel
  have fin : decide (7 < u.length) = false → (decide ((⟨#[d]⟩ : Str) = Str.ofString "0") && !decide (u = Str.ofString "0")) = false → isNumB u = (tl u).all digC := fun h1 h2 => by
    have e2 : decide ((⟨#[d]⟩ : Str) = Str.ofString "0") = decide ((tl u).head? = some 48) := by
      rw [e, hz]
      exact decide_eq_decide.mpr ⟨fun z => by rw [str1_inj z]; rfl, fun z => by rw [Option.some.inj (show some d = some 48 from z)]⟩
    unfold isNumB
    rw [h1, ← e2, h2]
    rfl
  have out : (decide (7 < u.length) = true ∨ (decide ((⟨#[d]⟩ : Str) = Str.ofString "0") && !decide (u = Str.ofString "0")) = true) → isNumB u = false := fun h => by
    rcases h with h | h
    · unfold isNumB
      rw [h]
      rfl
    · have e2 : decide ((⟨#[d]⟩ : Str) = Str.ofString "0") = decide ((tl u).head? = some 48) := by
        rw [e, hz]
        exact decide_eq_decide.mpr ⟨fun z => by rw [str1_inj z]; rfl, fun z => by rw [Option.some.inj (show some d = some 48 from z)]⟩
      unfold isNumB
      rw [← e2, h, Bool.not_true, Bool.false_and, Bool.and_false]
  have more : ∀ {D : Addr} {H1 : Hp} {i : Nat} {ch : Nat}, (tl u)[i]? = some ch → H1 D = some (.lst ((((tl u).take i).map digC).map V.bl)) → ((((tl u).take i).map digC).map V.bl).length < sizeLine ∧ .lst ((((tl u).take i).map digC).map V.bl ++ [V.bl (digC ch)]) = HO.lst ((((tl u).take (i + 1)).map digC).map V.bl) := fun {D H1 i ch} h _ => by
    refine ⟨?_, ?_⟩
    · rw [List.length_map, List.length_map, List.length_take]
      have : (tl u).length ≤ 100 := by rw [← TL.len_tl]; exact hlen
      exact small1000 (by omega)
    · rw [List.take_add_one, h, List.map_append, List.map_append]
      rfl
  refine ⟨_, rfl, _, rfl, Nat.le_trans hlen (by decide), _, _, rfl, rfl, _, rfl, ite2 (fun c => ?_) (fun c => ?_)⟩
  · have c' : 7 < u.length := by have := of_decide_eq_true c; omega
    have z := q H (Same.refl _)
    rw [out (.inl (decide_eq_true c'))] at z
    exact iteT z
  have c' : decide (7 < u.length) = false := decide_eq_false fun z => c (decide_eq_true (by omega))
  refine ⟨_, rfl, _, _, d, rfl, rfl, Nat.le_trans hlen (by decide), hd, rfl, _, rfl, ite2 (fun c2 => ?_) (fun c2 => ?_)⟩
  · by_cases c3 : u = Str.ofString "0"
    · have hb : (decide ((⟨#[d]⟩ : Str) = Str.ofString "0") && !decide (u = Str.ofString "0")) = false := by rw [decide_eq_true c3, Bool.not_true, Bool.and_false]
      refine ⟨_, rfl, rfl, _, rfl, iteF' (by rw [decide_eq_true (congrArg V.str c3)]; rfl) ?_⟩
      exact ⟨_, rfl, _, rfl, fun D hD => lc_it (walk_str) (fun i H' => Same H H' ∧ H' D = some (.lst ((((tl u).take i).map digC).map V.bl))) ⟨same_new hD _, upd_same⟩ (fun _ _ _ _ => True.intro) (fun i x H1 H2 hi hI hy => by obtain ⟨rfl, ch, hch, rfl⟩ := hy; obtain ⟨hs, hDD⟩ := hI; have hch2 : (tl u)[i]? = some ch := (by rw [show tl u = u.cps.toList from rfl, Array.getElem?_toList]; exact hch); obtain ⟨m1, m2⟩ := more hch2 hDD; exact ⟨rfl, _, rfl, ch, _, rfl, rfl, _, hDD, m1, same_at hD hs _, by rw [upd_same]; exact congrArg some m2⟩) (fun H1 hI => ⟨D, (tl u).map digC, rfl, SqL.of (by have := hI.2; rw [show u.cps.size = (tl u).length from (Array.length_toList (xs := u.cps)).symm, List.take_length] at this; exact this), by have z := q H1 hI.1; rw [fin c' hb] at z; rw [List.all_map]; exact z⟩)⟩
    · refine ⟨_, rfl, rfl, _, rfl, iteT' (by rw [decide_eq_false (fun z => c3 (V.str.inj z))]; rfl) ?_⟩
      have z := q H (Same.refl _)
      have c2' : (⟨#[d]⟩ : Str) = Str.ofString "0" := V.str.inj (of_decide_eq_true c2)
      rw [out (.inr (by rw [decide_eq_true c2', decide_eq_false c3]; rfl))] at z
      exact z
  · refine iteF ?_
    have hb : (decide ((⟨#[d]⟩ : Str) = Str.ofString "0") && !decide (u = Str.ofString "0")) = false := by rw [decide_eq_false (fun z => c2 (decide_eq_true (congrArg V.str z))), Bool.false_and]
    exact ⟨_, rfl, _, rfl, fun D hD => lc_it (walk_str) (fun i H' => Same H H' ∧ H' D = some (.lst ((((tl u).take i).map digC).map V.bl))) ⟨same_new hD _, upd_same⟩ (fun _ _ _ _ => True.intro) (fun i x H1 H2 hi hI hy => by obtain ⟨rfl, ch, hch, rfl⟩ := hy; obtain ⟨hs, hDD⟩ := hI; have hch2 : (tl u)[i]? = some ch := (by rw [show tl u = u.cps.toList from rfl, Array.getElem?_toList]; exact hch); obtain ⟨m1, m2⟩ := more hch2 hDD; exact ⟨rfl, _, rfl, ch, _, rfl, rfl, _, hDD, m1, same_at hD hs _, by rw [upd_same]; exact congrArg some m2⟩) (fun H1 hI => ⟨D, (tl u).map digC, rfl, SqL.of (by have := hI.2; rw [show u.cps.size = (tl u).length from (Array.length_toList (xs := u.cps)).symm, List.take_length] at this; exact this), by have z := q H1 hI.1; rw [fin c' hb] at z; rw [List.all_map]; exact z⟩)⟩
def spIsNameX : Sp := fun vs H Q _ => ∃ u : Str, vs = [.str u] ∧ u.length ≤ 100 ∧ tl u ≠ [] ∧ ∀ H', Same H H' → Q (.bl (isNameB u)) H'
theorem d_is_nameX (T : TxtL K mg C) (A : At K mg "is_name" s_is_name ["word"]) : DefOk P w K mg base CX0 1 "is_name" ["word"] spIsNameX := by
  have B := T.B
  refine A.ok sc_is_name (fun vs H Q E h => ?_) (fun f cdv A outer s H vs Q E hr h => ?_)
  · obtain ⟨u, rfl, _⟩ := h
    rfl
  obtain ⟨u, rfl, hlen, hne, q⟩ := h
  refine ⟨_, pss_cons (ps_if (PW.pt (pw_or (pt_cmpR op_gt (pe_callB (call_len_str) (by rfl) B.len (by decide +kernel) (pa_cons (pv 0) pa_nil)) (pe_gi T.g_MOST_NAME) (nomark _)) (pw_or1 (pt_cmpR op_notIn_sign (pe_ix ix_str (pv 0) pe_int (fun _ _ => rfl)) (pe_gs T.g_LETTERS) (by rfl)))))
      (pss_one (ps_ret pe_bl))
      (pss_nil))
  (pss_one (ps_ret (pe_callB (cr_all rfl) (by rfl) B.all (by decide +kernel) (pa_cons (pe_lc (own := [("letter", 1)])  rfl sc_is_name.nd (pi_str (pv 0)) (blkOk_by (own := [("letter", 1)]) (N := ["word", "letter"]) (sc := defScope s_is_name) (by decide +kernel)) (fun _ _ _ _ _ => pg_name (i := 1) sc_is_name.nd rfl (Or.inl rfl)) (fun _ _ _ _ _ => pts_nil) (fun _ _ _ _ _ => (pe_or (pe_cmpR op_in_sign (pv 1) (pe_gs T.g_LETTERS) (by rfl)) (pe_one (pe_cmpR op_in_sign (pv 1) (pe_gs T.g_DIGITS) (by rfl)))))) pa_nil))))
    , ?_⟩
  obtain ⟨d, ds, e⟩ : ∃ d ds, tl u = d :: ds := by
    cases e : tl u with
    | nil => exact absurd e hne
    | cons d ds => exact ⟨d, ds, rfl⟩
  have hd : atI u.cps.toList 0 = some d := by
    show atI (tl u) 0 = some d
    rw [e]
    exact atI_nat (j := 0) rfl
  have more : ∀ {D : Addr} {H1 : Hp} {i : Nat} {ch : Nat}, (tl u)[i]? = some ch → H1 D = some (.lst ((((tl u).take i).map fun c => letC c || digC c).map V.bl)) → ((((tl u).take i).map fun c => letC c || digC c).map V.bl).length < sizeLine ∧ HO.lst ((((tl u).take i).map fun c => letC c || digC c).map V.bl ++ [V.bl (letC ch || digC ch)]) = HO.lst ((((tl u).take (i + 1)).map fun c => letC c || digC c).map V.bl) := fun {D H1 i ch} h _ => by
    refine ⟨?_, ?_⟩
    · rw [List.length_map, List.length_map, List.length_take]
      have : (tl u).length ≤ 100 := by rw [← TL.len_tl]; exact hlen
      exact small1000 (by omega)
    · rw [List.take_add_one, h, List.map_append, List.map_append]
      rfl
  refine ⟨_, rfl, _, rfl, Nat.le_trans hlen (by decide), _, _, rfl, rfl, _, rfl, ite2 (fun c => ?_) (fun c => ?_)⟩
  · have c' : 15 < u.length := by have := of_decide_eq_true c; omega
    have z := q H (Same.refl _)
    rw [show isNameB u = false by unfold isNameB; rw [decide_eq_true c']; rfl] at z
    exact iteT z
  have c' : decide (15 < u.length) = false := decide_eq_false fun z => c (decide_eq_true (by omega))
  refine ⟨_, rfl, _, _, d, rfl, rfl, Nat.le_trans hlen (by decide), hd, d, _, rfl, rfl, _, rfl, ?_⟩
  cases hl : letC d with
  | false =>
    refine iteT' (show (!letC d) = true by rw [hl]; rfl) ?_
    have z := q H (Same.refl _)
    rw [show isNameB u = false by unfold isNameB; rw [c', e, List.head?_cons]; dsimp only; rw [hl]; rfl] at z
    exact z
  | true =>
    refine iteF' (show (!letC d) = false by rw [hl]; rfl) ?_
    refine ⟨_, rfl, _, rfl, fun D hD => lc_it (walk_str) (fun i H' => Same H H' ∧ H' D = some (.lst ((((tl u).take i).map fun c => letC c || digC c).map V.bl))) ⟨same_new hD _, upd_same⟩ (fun _ _ _ _ => True.intro) (fun i x H1 H2 hi hI hy => ?_) (fun H1 hI => ?_)⟩
    · obtain ⟨rfl, ch, hch, rfl⟩ := hy
      obtain ⟨hs, hDD⟩ := hI
      have hch2 : (tl u)[i]? = some ch := by
        rw [show tl u = u.cps.toList from rfl, Array.getElem?_toList]
        exact hch
      obtain ⟨m1, m2⟩ := more hch2 hDD
      refine ⟨rfl, _, rfl, ch, _, rfl, rfl, _, rfl, ite2 (fun c3 => ?_) (fun c3 => ?_)⟩
      · refine ⟨_, hDD, m1, same_at hD hs _, ?_⟩
        have c4 : letC ch = true := c3
        rw [c4, Bool.true_or] at m2
        rw [upd_same, ← m2, ← c4]
      · refine ⟨_, rfl, ch, _, rfl, rfl, _, hDD, m1, same_at hD hs _, ?_⟩
        have c4 : letC ch = false := Bool.eq_false_iff.mpr c3
        rw [c4, Bool.false_or] at m2
        rw [upd_same, ← m2]
        rfl
    · have h2 := hI.2
      rw [show u.cps.size = (tl u).length from (Array.length_toList (xs := u.cps)).symm, List.take_length] at h2
      refine ⟨D, (tl u).map fun c => letC c || digC c, rfl, SqL.of h2, ?_⟩
      have z := q H1 hI.1
      rw [show isNameB u = (tl u).all fun c => letC c || digC c by unfold isNameB; rw [c', e, List.head?_cons]; dsimp only; rw [hl]; rfl] at z
      rw [List.all_map]
      exact z
end
end DP
namespace DP
open PySem PySem.Spec PyProof.Rows L2
/-- a fault: the word's place in the line, the reason -/
abbrev Er := Nat × Str
abbrev Rd (α : Type) := Except Er α
def rdDue (ws : List Str) (r : Nat) : Rd Str := match ws[r]? with
  | none => .error (r, "missing word")
  | some u => if u = Str.ofString "" then .error (r, "empty word") else .ok u
def rdChoice (ws : List Str) (r : Nat) (cs : List Str) : Rd Str := match rdDue ws r with
  | .error e => .error e
  | .ok u => if u ∈ cs then .ok u else .error (r, "unexpected word")
def numV (u : Str) : Int := (PySem.intText? u).getD 0
def rdNum (ws : List Str) (r : Nat) (lo hi : Int) : Rd Int := match rdDue ws r with
  | .error e => .error e
  | .ok u => if isNumB u = true then (if numV u < lo ∨ hi < numV u then .error (r, "number out of range") else .ok (numV u)) else .error (r, "number expected")
def rdField (ws : List Str) (r : Nat) (x : Str) (lo hi : Int) : Rd Int := match rdChoice ws r [x] with
  | .error e => .error e
  | .ok _ => rdNum ws (r + 1) lo hi
def rdDueName (ws : List Str) (r : Nat) : Rd Str := match rdDue ws r with
  | .error e => .error e
  | .ok u => if isNameB u = true then .ok u else .error (r, "name expected")
def rdNew (ws : List Str) (r : Nat) (used : List Str) : Rd Str := match rdDueName ws r with
  | .error e => .error e
  | .ok u => if u ∈ used then .error (r, "name already used") else .ok u
def idxS (u : Str) : List Str → Nat
  | [] => 0
  | a :: r => if a = u then 0 else idxS u r + 1
def rdKnown (ws : List Str) (r : Nat) (ns : List Str) (least : Int) : Rd Nat := match rdDueName ws r with
  | .error e => .error e
  | .ok u => if u ∈ ns then (if (idxS u ns : Int) < least then .error (r, "line out of order") else .ok (idxS u ns)) else .error (r, "unknown name")
def rdFinish (ws : List Str) (r : Nat) : Rd Unit := if r < ws.length then (match rdDue ws r with
  | .error e => .error e
  | .ok _ => .error (r, "unexpected word")) else .ok ()
theorem rdDue_ok {ws : List Str} {r : Nat} {u : Str} (h : rdDue ws r = .ok u) : ws[r]? = some u ∧ u ≠ Str.ofString "" := by
  unfold rdDue at h
  split at h
  · cases h
  · rename_i v e
    split at h
    · cases h
    · rename_i n
      cases h
      exact ⟨e, n⟩
theorem ne_tl {u : Str} (h : u ≠ Str.ofString "") : tl u ≠ [] := fun z => h (TL.ext_tl (show tl u = tl (Str.ofString "") by rw [z]; decide +kernel))
theorem colW_succ {ws : List Str} {r : Nat} {u : Str} (h : ws[r]? = some u) : colW ws (r + 1) = colW ws r + ((u.length : Int) + 1) := by
  unfold colW
  rw [List.take_add_one, h, List.map_append, List.sum_append]
  show 1 + (_ + ((u.length : Int) + 1 + 0)) = _
  omega
section
variable {P : Program} {w : World} {K : PySem.W.Frag} {mg : Str → Option Value} {base : Heap} {C CT : Addr}
def spHasMoreX (C : Addr) : Sp := fun vs H Q _ => ∃ (a : Addr) (n : Int) (ws : List Str) (r : Nat), vs = [.ref a] ∧ LnX C H a n ws r ∧ Q (.bl (decide (r < ws.length))) H
theorem d_has_moreX (T : TxtL K mg C) (A : MAt K C "has_more" "Line.has_more" s_Line_has_more ["self"]) : MDef P w K mg base CX0 1 C "has_more" ["self"] [] (spHasMoreX C) := by
  have B := T.B
  refine A.ok sc_Line_has_more (fun vs H Q E h => ?_) (fun f cdv A outer s H vs Q E hr h => ?_)
  · obtain ⟨a, n, ws, r, rfl, _⟩ := h
    rfl
  obtain ⟨a, n, ws, r, rfl, hL, q⟩ := h
  obtain ⟨dx, wl, h1, h2⟩ := hL.ex
  refine ⟨_, pss_one (ps_ret (pe_cmpR op_lt (pe_fld (pv 0) rfl) (pe_callB (call_len_seq) (by rfl) B.len (by decide +kernel) (pa_cons (pe_fld (pv 0) rfl) pa_nil)) (nomark _)))
    , ?_⟩
  refine ⟨_, rfl, a, C, dx, _, _, rfl, h1, T.c_Line.cl, T.n_read, lnF_read, _, rfl, a, C, dx, _, _, rfl, h1, T.c_Line.cl, T.n_words, lnF_words, wl, _, rfl, .inl (SqL.of h2), _, _, rfl, rfl, ?_⟩
  have e : decide ((r : Int) < (((ws.map V.str).length : Nat) : Int)) = decide (r < ws.length) := by
    rw [List.length_map]
    exact decide_eq_decide.mpr (by omega)
  show Q (.bl (decide ((r : Int) < (((ws.map V.str).length : Nat) : Int)))) H
  rw [e]
  exact q
def spStepX (C : Addr) : Sp := fun vs H Q _ => ∃ (a : Addr) (n : Int) (ws : List Str) (r : Nat), vs = [.ref a] ∧ LnX C H a n ws r ∧ r < ws.length ∧ ∀ H', SameX a H H' → LnX C H' a n ws (r + 1) → Q .non H'
theorem d_stepX (T : TxtL K mg C) (A : MAt K C "step" "Line.step" s_Line_step ["self"]) : MDef P w K mg base CX0 1 C "step" ["self"] [] (spStepX C) := by
  have B := T.B
  refine A.ok sc_Line_step (fun vs H Q E h => ?_) (fun f cdv A outer s H vs Q E hr h => ?_)
  · obtain ⟨a, n, ws, r, rfl, _⟩ := h
    rfl
  obtain ⟨a, n, ws, r, rfl, hL, hr', q⟩ := h
  obtain ⟨dx, wl, h1, h2⟩ := hL.ex
  have hu : ws[r]? = some ws[r] := List.getElem?_eq_getElem hr'
  have ea : wl ≠ a := ne_of h2 h1 (fun z => nomatch z)
  have hw := hL.wl _ (List.getElem_mem hr')
  refine ⟨_, pss_cons (ps_fldaug (pv 0) (pe_op op_add (pe_callB (call_len_str) (by rfl) B.len (by decide +kernel) (pa_cons (pe_ix ix_list (pe_fld (pv 0) rfl) (pe_fld (pv 0) rfl) (fun _ _ => rfl)) pa_nil)) pe_int) in_add)
  (pss_one (ps_fldaug (pv 0) pe_int in_add))
    , ?_⟩
  refine ⟨_, rfl, a, C, dx, _, _, rfl, h1, T.c_Line.cl, T.n_column, lnF_column, _, rfl, a, C, dx, _, _, rfl, h1, T.c_Line.cl, T.n_words, lnF_words, _, rfl, a, C, dx, _, _, rfl, h1, T.c_Line.cl, T.n_read, lnF_read, wl, _, _, _, rfl, rfl, SqL.of h2, map_at hu, ?_⟩
  refine ⟨_, rfl, Nat.le_trans hw (by decide), _, _, rfl, rfl, _, _, rfl, rfl, dx, _, h1, (by show 4 < 1000; decide), ?_⟩
  rw [lnF_put_column]
  refine ⟨_, rfl, a, C, dx, _, _, rfl, upd_same, T.c_Line.cl, T.n_read, lnF_read, _, _, rfl, rfl, dx, _, upd_same, (by show 4 < 1000; decide), ?_⟩
  rw [show ((r : Int) + 1) = ((r + 1 : Nat) : Int) by omega, lnF_put_read, upd_upd, ← colW_succ hu]
  exact q _ SameX.upd ⟨⟨dx, wl, upd_same, by rw [upd_ne ea]; exact h2⟩, hL.n0, hL.n1, hr', hL.wl, hL.sz⟩
/-- a fault of the line at a -/
abbrev FltX (CT : Addr) (E : XK) (a : Addr) (H : Hp) (n : Int) (ws : List Str) (e : Er) : Prop := FltE CT E (SameX a H) n (colW ws e.1) e.2
theorem FltX.on {CT : Addr} {E : XK} {a : Addr} {H H' : Hp} {n : Int} {ws : List Str} {e : Er} (h : FltX CT E a H n ws e) (s : SameX a H H') : FltX CT E a H' n ws e := fun d H2 s2 hd => h d H2 (s.trans s2) hd
theorem FltX.same {CT : Addr} {E : XK} {a : Addr} {H : Hp} {n : Int} {ws : List Str} {e : Er} (h : FltX CT E a H n ws e) : FltE CT E (Same H) n (colW ws e.1) e.2 := fun d H2 s2 hd => h d H2 (SameX.of s2) hd
def spDueX (C CT : Addr) : Sp := fun vs H Q E => ∃ (a : Addr) (n : Int) (ws : List Str) (r : Nat), vs = [.ref a] ∧ LnX C H a n ws r ∧ (∀ e, rdDue ws r = .error e → FltX CT E a H n ws e) ∧ (∀ u, rdDue ws r = .ok u → Q (.str u) H)
theorem d_dueX (T : TxtL K mg C) (D_Line_has_more : MDef P w K mg base (L2N.CX P w) 1 C "has_more" ["self"] [] (spHasMoreX C)) (D_Line_refuse : MDef P w K mg base (L2N.CX P w) 3 C "refuse" ["self", "reason"] [] (spRefuse C CT)) (A : MAt K C "due" "Line.due" s_Line_due ["self"]) : MDef P w K mg base (L2N.CX P w) 4 C "due" ["self"] [] (spDueX C CT) := by
  have B := T.B
  refine A.okX sc_Line_due (fun vs H Q E h => ?_) (fun f cdv A outer s H vs Q E hr h => ?_)
  · obtain ⟨a, n, ws, r, rfl, _⟩ := h
    rfl
  obtain ⟨a, n, ws, r, rfl, hL, qe, q⟩ := h
  obtain ⟨dx, wl, h1, h2⟩ := hL.ex
  refine ⟨_, pss_cons (ps_if (pt_not (pt_val (pe_m0 D_Line_has_more T.c_Line.cl (hr.mono (by omega)) (passOut rfl rfl rfl rfl) (pv 0))))
      (pss_one (ps_expr (pe_m D_Line_refuse T.c_Line.cl (hr.mono (by omega)) (passOut rfl rfl rfl rfl) (pv 0) (pa_cons pe_str pa_nil))))
      (pss_nil))
  (pss_cons (ps_set (i := 1) sc_Line_due.nd rfl (Or.inl rfl) (pe_ix ix_list (pe_fld (pv 0) rfl) (pe_fld (pv 0) rfl) (fun _ _ => rfl)))
  (pss_cons (ps_if (pt_cmpR op_eq (pv 1) pe_str (nomark _))
      (pss_one (ps_expr (pe_m D_Line_refuse T.c_Line.cl (hr.mono (by omega)) (passOut rfl rfl rfl rfl) (pv 0) (pa_cons pe_str pa_nil))))
      (pss_nil))
  (pss_one (ps_ret (pv 1)))))
    , ?_⟩
  refine ⟨_, rfl, a, dx, _, rfl, h1, lnF_no (by decide +kernel) (by decide +kernel) (by decide +kernel) (by decide +kernel), a, n, ws, r, rfl, hL, _, rfl, ?_⟩
  by_cases hr' : r < ws.length
  · have hu : ws[r]? = some ws[r] := List.getElem?_eq_getElem hr'
    refine iteF' (by rw [decide_eq_true hr']; rfl) ?_
    refine ⟨_, rfl, a, C, dx, _, _, rfl, h1, T.c_Line.cl, T.n_words, lnF_words, _, rfl, a, C, dx, _, _, rfl, h1, T.c_Line.cl, T.n_read, lnF_read, wl, _, _, _, rfl, rfl, SqL.of h2, map_at hu, ?_⟩
    by_cases hz : ws[r] = Str.ofString ""
    · have er : rdDue ws r = .error (r, "empty word") := by unfold rdDue; rw [hu]; dsimp only; rw [if_pos hz]
      refine ⟨_, rfl, rfl, _, rfl, iteT' (decide_eq_true (congrArg V.str hz)) ?_⟩
      exact ⟨_, rfl, a, dx, _, rfl, h1, lnF_no (by decide +kernel) (by decide +kernel) (by decide +kernel) (by decide +kernel), a, n, ws, r, _, rfl, hL, by decide +kernel, (qe _ er).same⟩
    · have er : rdDue ws r = .ok ws[r] := by unfold rdDue; rw [hu]; dsimp only; rw [if_neg hz]
      refine ⟨_, rfl, rfl, _, rfl, iteF' (decide_eq_false fun z => hz (V.str.inj z)) ?_⟩
      exact ⟨_, rfl, q _ er⟩
  · have er : rdDue ws r = .error (r, "missing word") := by unfold rdDue; rw [List.getElem?_eq_none (by omega)]
    refine iteT' (by rw [decide_eq_false hr']; rfl) ?_
    exact ⟨_, rfl, a, dx, _, rfl, h1, lnF_no (by decide +kernel) (by decide +kernel) (by decide +kernel) (by decide +kernel), a, n, ws, r, _, rfl, hL, by decide +kernel, (qe _ er).same⟩
theorem LnX.at {H : Hp} {a : Addr} {n : Int} {ws : List Str} {r : Nat} {u : Str} (_ : LnX C H a n ws r) (h : rdDue ws r = .ok u) : r < ws.length := (List.getElem?_eq_some_iff.mp (rdDue_ok h).1).1
def spChoiceX (K : PySem.W.Frag) (C CT : Addr) : Sp := fun vs H Q E => ∃ (a : Addr) (n : Int) (ws : List Str) (r : Nat) (t : Addr) (cs : List Str), vs = [.ref a, .ref t] ∧ LnX C H a n ws r ∧ SqT K H t (cs.map V.str) ∧ (∀ e, rdChoice ws r cs = .error e → FltX CT E a H n ws e) ∧
  ∀ u, rdChoice ws r cs = .ok u → ∀ H', SameX a H H' → LnX C H' a n ws (r + 1) → Q (.str u) H'
theorem d_read_choiceX (T : TxtL K mg C) (D_Line_due : MDef P w K mg base (L2N.CX P w) 4 C "due" ["self"] [] (spDueX C CT)) (D_Line_refuse : MDef P w K mg base (L2N.CX P w) 3 C "refuse" ["self", "reason"] [] (spRefuse C CT)) (D_Line_step : MDef P w K mg base (L2N.CX P w) 1 C "step" ["self"] [] (spStepX C))
    (A : MAt K C "read_choice" "Line.read_choice" s_Line_read_choice ["self", "choices"]) : MDef P w K mg base (L2N.CX P w) 5 C "read_choice" ["self", "choices"] [] (spChoiceX K C CT) := by
  have B := T.B
  refine A.okX sc_Line_read_choice (fun vs H Q E h => ?_) (fun f cdv A outer s H vs Q E hr h => ?_)
  · obtain ⟨a, n, ws, r, t, cs, rfl, _⟩ := h
    rfl
  obtain ⟨a, n, ws, r, t, cs, rfl, hL, hT, qe, q⟩ := h
  refine ⟨_, pss_cons (ps_set (i := 2) sc_Line_read_choice.nd rfl (Or.inl rfl) (pe_m0 D_Line_due T.c_Line.cl (hr.mono (by omega)) (passOut rfl rfl rfl rfl) (pv 0)))
  (pss_cons (ps_if (pt_cmpR op_notIn_seq (pv 2) (pv 1) (by rfl))
      (pss_one (ps_expr (pe_m D_Line_refuse T.c_Line.cl (hr.mono (by omega)) (passOut rfl rfl rfl rfl) (pv 0) (pa_cons pe_str pa_nil))))
      (pss_nil))
  (pss_cons (ps_expr (pe_m0 D_Line_step T.c_Line.cl (hr.mono (by omega)) (passOut rfl rfl rfl rfl) (pv 0)))
  (pss_one (ps_ret (pv 2)))))
    , ?_⟩
  obtain ⟨_, _, g0, z0⟩ := LnX.no hL (m := "due") (by decide +kernel) (by decide +kernel) (by decide +kernel) (by decide +kernel)
  refine ⟨_, rfl, a, _, _, rfl, g0, z0, a, n, ws, r, rfl, hL, fun e he => qe e (by unfold rdChoice; rw [he]), fun u hu => ?_⟩
  refine ⟨_, rfl, _, rfl, t, _, rfl, .inr hT, rfl, flat_strs, _, rfl, ?_⟩
  by_cases hc : u ∈ cs
  · refine iteF' (by rw [inV_str, decide_eq_true hc]; rfl) ?_
    obtain ⟨_, _, g1, z1⟩ := LnX.no hL (m := "step") (by decide +kernel) (by decide +kernel) (by decide +kernel) (by decide +kernel)
    refine ⟨_, rfl, a, _, _, rfl, g1, z1, a, n, ws, r, rfl, hL, hL.at hu, fun H' s' L' => ?_⟩
    exact ⟨_, rfl, q u (by unfold rdChoice; rw [hu]; dsimp only; rw [if_pos hc]) H' s' L'⟩
  · refine iteT' (by rw [inV_str, decide_eq_false hc]; rfl) ?_
    (obtain ⟨_, _, g1, z1⟩ := LnX.no hL (m := "refuse") (by decide +kernel) (by decide +kernel) (by decide +kernel) (by decide +kernel); exact ⟨_, rfl, a, _, _, rfl, g1, z1, a, n, ws, r, _, rfl, hL, by decide +kernel, (qe _ (by unfold rdChoice; rw [hu]; dsimp only; rw [if_neg hc])).same⟩)
end
end DP
namespace DP
open PySem PySem.Spec PyProof.Rows L2
theorem digC_lt {c : Nat} (h : digC c = true) : 48 ≤ c ∧ c ≤ 57 := by
  have all : ∀ d ∈ ("0123456789" : Str).cps.toList, 48 ≤ d ∧ d ≤ 57 := by decide +kernel
  exact all c (of_decide_eq_true h)
theorem digC_of {c : Nat} (h : 48 ≤ c ∧ c ≤ 57) : digC c = true := decide_eq_true (dig_in h)
/-- digits without a 0 ahead are a number's text -/
theorem numL_of : ∀ (k : Nat) (ds : List Nat), ds.length = k → ds ≠ [] → (∀ c ∈ ds, 48 ≤ c ∧ c ≤ 57) → (ds.head? = some 48 → ds = [48]) → ∃ m, TL.numL m = ds := by
  intro k
  induction k using Nat.strongRecOn with
  | _ k ih =>
    intro ds hk hne hd h0
    have hsp := List.dropLast_concat_getLast hne
    have hl := hd (ds.getLast hne) (List.getLast_mem hne)
    by_cases c : ds.dropLast = []
    · rw [c, List.nil_append] at hsp
      refine ⟨ds.getLast hne - 48, ?_⟩
      rw [TL.numL_lt (by omega), show 48 + (ds.getLast hne - 48) = ds.getLast hne by omega]
      exact hsp
    · have hh : ds.head? = ds.dropLast.head? := by
        cases q : ds.dropLast with
        | nil => exact absurd q c
        | cons x y =>
          rw [q] at hsp
          rw [← hsp]
          rfl
      have h1 : ds.dropLast.length < k := by
        rw [List.length_dropLast, hk]
        have : 0 < ds.length := List.length_pos_iff.mpr hne
        omega
      have h2 : ds.head? ≠ some 48 := fun z => by
        have e := h0 z
        rw [e] at c
        exact c rfl
      obtain ⟨m, hm⟩ := ih _ h1 ds.dropLast rfl c (fun x hx => hd x (List.dropLast_subset _ hx)) (fun z => absurd (hh.trans z) h2)
      have m0 : m ≠ 0 := fun z => by
        rw [z] at hm
        have e : TL.numL 0 = [48] := by rw [TL.numL_lt (by decide)]
        rw [e] at hm
        exact h2 (by rw [hh, ← hm]; rfl)
      refine ⟨10 * m + (ds.getLast hne - 48), ?_⟩
      rw [TL.numL_step (by omega), show (10 * m + (ds.getLast hne - 48)) / 10 = m by omega, show (10 * m + (ds.getLast hne - 48)) % 10 = ds.getLast hne - 48 by omega, hm]
      conv => rhs; rw [← hsp]
      congr 2
      omega
theorem numL_small {m k : Nat} (hk : 0 < k) (h : (TL.numL m).length ≤ k) : m < 10 ^ k := by
  induction k generalizing m with
  | zero => omega
  | succ j ih =>
    by_cases c : m < 10
    · have : 10 ^ 1 ≤ 10 ^ (j + 1) := Nat.pow_le_pow_right (by decide) (by omega)
      omega
    · rw [TL.numL_step (by omega), List.length_append, List.length_singleton] at h
      have hj : 0 < j := by
        rcases Nat.eq_zero_or_pos j with z | z
        · subst z
          have : TL.numL (m / 10) = [] := List.eq_nil_of_length_eq_zero (by omega)
          exact absurd this (TL.numL_ne _)
        · exact z
      have := ih hj (m := m / 10) (by omega)
      rw [Nat.pow_succ]
      omega
theorem isNumB_num {u : Str} (hne : tl u ≠ []) (h : isNumB u = true) : ∃ m : Int, 0 ≤ m ∧ m < 10000000 ∧ u = num m := by
  unfold isNumB at h
  rw [Bool.and_eq_true, Bool.and_eq_true] at h
  obtain ⟨h1, h2, h3⟩ := h
  have hl : u.length ≤ 7 := by
    rw [Bool.not_eq_true', decide_eq_false_iff_not] at h1
    omega
  obtain ⟨m, hm⟩ := numL_of _ (tl u) rfl hne (fun c hc => digC_lt (List.all_eq_true.mp h3 c hc)) (fun z => by
    rw [Bool.not_eq_true', Bool.and_eq_false_iff, decide_eq_false_iff_not, Bool.not_eq_false', decide_eq_true_eq] at h2
    rcases h2 with h2 | h2
    · exact absurd z h2
    · rw [h2]
      decide +kernel)
  have hm7 : m < 10000000 := by
    have hl' : (tl u).length ≤ 7 := by rw [← TL.len_tl]; exact hl
    rw [← hm] at hl'
    exact numL_small (k := 7) (by decide) hl'
  refine ⟨(m : Int), by omega, by omega, TL.ext_tl ?_⟩
  show tl u = tl (num (m : Int))
  rw [num_nat (by omega), Int.toNat_natCast, hm]
theorem numV_num {m : Int} (h0 : 0 ≤ m) (h1 : m < 10000000) : numV (num m) = m := by
  unfold numV
  rw [(int_of_num h0 h1).1]
  rfl
theorem isNumB_of {m : Int} (h0 : 0 ≤ m) (h1 : m < 10000000) : isNumB (num m) = true := by
  have htl := num_nat h0
  have hlen : (num m).length ≤ 7 := by
    rw [TL.len_tl, show TL.tl (num m) = tl (num m) from rfl, htl]
    exact numL_len7 (by omega)
  unfold isNumB
  rw [Bool.and_eq_true, Bool.and_eq_true]
  refine ⟨by rw [decide_eq_false (by omega)]; rfl, ?_, List.all_eq_true.mpr fun c hc => ?_⟩
  · by_cases c : (tl (num m)).head? = some 48
    · have e : m = 0 := by
        rw [htl] at c
        cases q : TL.numL m.toNat with
        | nil => exact absurd q (TL.numL_ne _)
        | cons a b =>
          rw [q] at c
          have ea : a = 48 := Option.some.inj c
          have := numL_head b (by rw [q, ea])
          omega
      rw [e]
      decide +kernel
    · rw [decide_eq_false c]
      rfl
  · rw [htl] at hc
    exact digC_of (TL.numL_digits _ c hc)
section
variable {P : Program} {w : World} {K : PySem.W.Frag} {mg : Str → Option Value} {base : Heap} {C CT : Addr}
theorem LnX.wlen {H : Hp} {a : Addr} {n : Int} {ws : List Str} {r : Nat} {u : Str} (h : LnX C H a n ws r) (hu : rdDue ws r = .ok u) : u.length ≤ 100 := Nat.le_trans (h.wl u (List.mem_of_getElem? (rdDue_ok hu).1)) (by decide)
def spNumberX (C CT : Addr) : Sp := fun vs H Q E => ∃ (a : Addr) (n : Int) (ws : List Str) (r : Nat) (lo hi : Int), vs = [.ref a, .int lo, .int hi] ∧ LnX C H a n ws r ∧ (∀ e, rdNum ws r lo hi = .error e → FltX CT E a H n ws e) ∧
  ∀ m, rdNum ws r lo hi = .ok m → ∀ H', SameX a H H' → LnX C H' a n ws (r + 1) → Q (.int m) H'
theorem d_read_numberX (T : TxtL K mg C) (D_is_number : DefOk P w K mg base (L2N.CX P w) 1 "is_number" ["word"] spIsNumX) (D_Line_due : MDef P w K mg base (L2N.CX P w) 4 C "due" ["self"] [] (spDueX C CT)) (D_Line_refuse : MDef P w K mg base (L2N.CX P w) 3 C "refuse" ["self", "reason"] [] (spRefuse C CT)) (D_Line_step : MDef P w K mg base (L2N.CX P w) 1 C "step" ["self"] [] (spStepX C))
    (A : MAt K C "read_number" "Line.read_number" s_Line_read_number ["self", "least", "most"]) : MDef P w K mg base (L2N.CX P w) 5 C "read_number" ["self", "least", "most"] [] (spNumberX C CT) := by
  have B := T.B
  refine A.okX sc_Line_read_number (fun vs H Q E h => ?_) (fun f cdv A outer s H vs Q E hr h => ?_)
  · obtain ⟨a, n, ws, r, lo, hi, rfl, _⟩ := h
    rfl
  obtain ⟨a, n, ws, r, lo, hi, rfl, hL, qe, q⟩ := h
  refine ⟨_, pss_cons (ps_set (i := 3) sc_Line_read_number.nd rfl (Or.inl rfl) (pe_m0 D_Line_due T.c_Line.cl (hr.mono (by omega)) (passOut rfl rfl rfl rfl) (pv 0)))
  (pss_cons (ps_if (pt_not (pt_val (pe_f D_is_number (hr.mono (by omega)) (passOut rfl rfl rfl rfl) (pa_cons (pv 3) pa_nil))))
      (pss_one (ps_expr (pe_m D_Line_refuse T.c_Line.cl (hr.mono (by omega)) (passOut rfl rfl rfl rfl) (pv 0) (pa_cons pe_str pa_nil))))
      (pss_nil))
  (pss_cons (ps_set (i := 4) sc_Line_read_number.nd rfl (Or.inl rfl) (pe_callTy (call_int_str) (by rfl) B.int (by decide +kernel) (pa_cons (pv 3) pa_nil)))
  (pss_cons (ps_if (PW.pt (pw_or (pt_cmpR op_lt (pv 4) (pv 1) (nomark _)) (pw_or1 (pt_cmpR op_gt (pv 4) (pv 2) (nomark _)))))
      (pss_one (ps_expr (pe_m D_Line_refuse T.c_Line.cl (hr.mono (by omega)) (passOut rfl rfl rfl rfl) (pv 0) (pa_cons pe_str pa_nil))))
      (pss_nil))
  (pss_cons (ps_expr (pe_m0 D_Line_step T.c_Line.cl (hr.mono (by omega)) (passOut rfl rfl rfl rfl) (pv 0)))
  (pss_one (ps_ret (pv 4)))))))
    , ?_⟩
  obtain ⟨_, _, g0, z0⟩ := LnX.no hL (m := "due") (by decide +kernel) (by decide +kernel) (by decide +kernel) (by decide +kernel)
  refine ⟨_, rfl, a, _, _, rfl, g0, z0, a, n, ws, r, rfl, hL, fun e he => qe e (by unfold rdNum; rw [he]), fun u hu => ?_⟩
  have hne := ne_tl (rdDue_ok hu).2
  refine ⟨_, rfl, u, rfl, hL.wlen hu, hne, fun H1 s1 => ⟨_, rfl, ?_⟩⟩
  have L1 := hL.same s1
  cases hb : isNumB u with
  | false =>
    refine iteT ?_
    (obtain ⟨_, _, g1, z1⟩ := LnX.no L1 (m := "refuse") (by decide +kernel) (by decide +kernel) (by decide +kernel) (by decide +kernel); exact ⟨_, rfl, a, _, _, rfl, g1, z1, a, n, ws, r, _, rfl, L1, by decide +kernel, ((qe _ (by unfold rdNum; rw [hu]; dsimp only; rw [hb, if_neg Bool.false_ne_true])).on (SameX.of s1)).same⟩)
  | true =>
    refine iteF ?_
    obtain ⟨m, m0, m1, hm⟩ := isNumB_num hne hb
    obtain ⟨i1, i2⟩ := int_of_num m0 m1
    have hv : numV u = m := by rw [hm]; exact numV_num m0 m1
    refine ⟨_, rfl, u, m, rfl, by rw [hm]; exact i1, by rw [hm]; exact i2, ?_⟩
    refine ⟨_, rfl, _, rfl, _, _, rfl, rfl, _, rfl, ite2 (fun c => ?_) (fun c => ?_)⟩
    · refine iteT ?_
      have c1 : m < lo := of_decide_eq_true c
      (obtain ⟨_, _, g1, z1⟩ := LnX.no L1 (m := "refuse") (by decide +kernel) (by decide +kernel) (by decide +kernel) (by decide +kernel); exact ⟨_, rfl, a, _, _, rfl, g1, z1, a, n, ws, r, _, rfl, L1, by decide +kernel, ((qe _ (by unfold rdNum; rw [hu]; dsimp only; rw [hb, if_pos rfl, hv, if_pos (Or.inl c1)])).on (SameX.of s1)).same⟩)
    refine ⟨_, rfl, _, rfl, _, _, rfl, rfl, _, rfl, ite2 (fun c2 => ?_) (fun c2 => ?_)⟩
    · have c3 : hi < m := by have := of_decide_eq_true c2; omega
      (obtain ⟨_, _, g1, z1⟩ := LnX.no L1 (m := "refuse") (by decide +kernel) (by decide +kernel) (by decide +kernel) (by decide +kernel); exact ⟨_, rfl, a, _, _, rfl, g1, z1, a, n, ws, r, _, rfl, L1, by decide +kernel, ((qe _ (by unfold rdNum; rw [hu]; dsimp only; rw [hb, if_pos rfl, hv, if_pos (Or.inr c3)])).on (SameX.of s1)).same⟩)
    have d1 : ¬ m < lo := fun z => c (decide_eq_true z)
    have d2 : ¬ hi < m := fun z => c2 (decide_eq_true (by omega))
    obtain ⟨_, _, g1, z1⟩ := LnX.no L1 (m := "step") (by decide +kernel) (by decide +kernel) (by decide +kernel) (by decide +kernel)
    refine ⟨_, rfl, a, _, _, rfl, g1, z1, a, n, ws, r, rfl, L1, hL.at hu, fun H' s' L' => ?_⟩
    exact ⟨_, rfl, q m (by unfold rdNum; rw [hu]; dsimp only; rw [hb, if_pos rfl, hv, if_neg (fun z => z.elim d1 d2)]) H' ((SameX.of s1).trans s') L'⟩
def spFieldX (C CT : Addr) : Sp := fun vs H Q E => ∃ (a : Addr) (n : Int) (ws : List Str) (r : Nat) (x : Str) (lo hi : Int), vs = [.ref a, .str x, .int lo, .int hi] ∧ LnX C H a n ws r ∧ (∀ e, rdField ws r x lo hi = .error e → FltX CT E a H n ws e) ∧
  ∀ m, rdField ws r x lo hi = .ok m → ∀ H', SameX a H H' → LnX C H' a n ws (r + 2) → Q (.int m) H'
theorem d_read_fieldX (T : TxtL K mg C) (D_Line_read_choice : MDef P w K mg base (L2N.CX P w) 5 C "read_choice" ["self", "choices"] [] (spChoiceX K C CT)) (D_Line_read_number : MDef P w K mg base (L2N.CX P w) 5 C "read_number" ["self", "least", "most"] [] (spNumberX C CT))
    (A : MAt K C "read_field" "Line.read_field" s_Line_read_field ["self", "word", "least", "most"]) : MDef P w K mg base (L2N.CX P w) 6 C "read_field" ["self", "word", "least", "most"] [] (spFieldX C CT) := by
  have B := T.B
  refine A.okX sc_Line_read_field (fun vs H Q E h => ?_) (fun f cdv A outer s H vs Q E hr h => ?_)
  · obtain ⟨a, n, ws, r, x, lo, hi, rfl, _⟩ := h
    rfl
  obtain ⟨a, n, ws, r, x, lo, hi, rfl, hL, qe, q⟩ := h
  refine ⟨_, pss_cons (ps_expr (pe_m D_Line_read_choice T.c_Line.cl (hr.mono (by omega)) (passOut rfl rfl rfl rfl) (pv 0) (pa_cons (pe_tup (pa_cons (pv 1) pa_nil)) pa_nil)))
  (pss_one (ps_ret (pe_m D_Line_read_number T.c_Line.cl (hr.mono (by omega)) (passOut rfl rfl rfl rfl) (pv 0) (pa_cons (pv 2) (pa_cons (pv 3) pa_nil)))))
    , ?_⟩
  obtain ⟨_, _, g0, z0⟩ := LnX.no hL (m := "read_choice") (by decide +kernel) (by decide +kernel) (by decide +kernel) (by decide +kernel)
  refine ⟨_, rfl, a, _, _, rfl, g0, z0, _, rfl, (by show 1 ≤ sizeLine; decide), fun t ht => ?_⟩
  have s1 : Same H (upd H t (.tup [.str x])) := same_new ht _
  refine ⟨a, n, ws, r, t, [x], rfl, hL.same s1, SqT.of upd_same, fun e he => (qe e (by unfold rdField; rw [he])).on (SameX.of s1), fun u hu H2 s2 L2 => ?_⟩
  have s02 := (SameX.of s1).trans s2
  obtain ⟨_, _, g1, z1⟩ := LnX.no L2 (m := "read_number") (by decide +kernel) (by decide +kernel) (by decide +kernel) (by decide +kernel)
  refine ⟨_, rfl, a, _, _, rfl, g1, z1, _, rfl, _, rfl, a, n, ws, r + 1, lo, hi, rfl, L2, fun e he => (qe e (by unfold rdField; rw [hu]; exact he)).on s02, fun m hm H3 s3 L3 => ?_⟩
  exact q m (by unfold rdField; rw [hu]; exact hm) H3 (s02.trans s3) L3
def spDueNameX (C CT : Addr) : Sp := fun vs H Q E => ∃ (a : Addr) (n : Int) (ws : List Str) (r : Nat), vs = [.ref a] ∧ LnX C H a n ws r ∧ (∀ e, rdDueName ws r = .error e → FltX CT E a H n ws e) ∧ (∀ u, rdDueName ws r = .ok u → ∀ H', Same H H' → Q (.str u) H')
theorem d_due_nameX (T : TxtL K mg C) (D_is_name : DefOk P w K mg base (L2N.CX P w) 1 "is_name" ["word"] spIsNameX) (D_Line_due : MDef P w K mg base (L2N.CX P w) 4 C "due" ["self"] [] (spDueX C CT)) (D_Line_refuse : MDef P w K mg base (L2N.CX P w) 3 C "refuse" ["self", "reason"] [] (spRefuse C CT))
    (A : MAt K C "due_name" "Line.due_name" s_Line_due_name ["self"]) : MDef P w K mg base (L2N.CX P w) 5 C "due_name" ["self"] [] (spDueNameX C CT) := by
  have B := T.B
  refine A.okX sc_Line_due_name (fun vs H Q E h => ?_) (fun f cdv A outer s H vs Q E hr h => ?_)
  · obtain ⟨a, n, ws, r, rfl, _⟩ := h
    rfl
  obtain ⟨a, n, ws, r, rfl, hL, qe, q⟩ := h
  refine ⟨_, pss_cons (ps_set (i := 1) sc_Line_due_name.nd rfl (Or.inl rfl) (pe_m0 D_Line_due T.c_Line.cl (hr.mono (by omega)) (passOut rfl rfl rfl rfl) (pv 0)))
  (pss_cons (ps_if (pt_not (pt_val (pe_f D_is_name (hr.mono (by omega)) (passOut rfl rfl rfl rfl) (pa_cons (pv 1) pa_nil))))
      (pss_one (ps_expr (pe_m D_Line_refuse T.c_Line.cl (hr.mono (by omega)) (passOut rfl rfl rfl rfl) (pv 0) (pa_cons pe_str pa_nil))))
      (pss_nil))
  (pss_one (ps_ret (pv 1))))
    , ?_⟩
  obtain ⟨_, _, g0, z0⟩ := LnX.no hL (m := "due") (by decide +kernel) (by decide +kernel) (by decide +kernel) (by decide +kernel)
  refine ⟨_, rfl, a, _, _, rfl, g0, z0, a, n, ws, r, rfl, hL, fun e he => qe e (by unfold rdDueName; rw [he]), fun u hu => ?_⟩
  refine ⟨_, rfl, u, rfl, hL.wlen hu, ne_tl (rdDue_ok hu).2, fun H1 s1 => ⟨_, rfl, ?_⟩⟩
  have L1 := hL.same s1
  cases hb : isNameB u with
  | false =>
    refine iteT ?_
    (obtain ⟨_, _, g1, z1⟩ := LnX.no L1 (m := "refuse") (by decide +kernel) (by decide +kernel) (by decide +kernel) (by decide +kernel); exact ⟨_, rfl, a, _, _, rfl, g1, z1, a, n, ws, r, _, rfl, L1, by decide +kernel, ((qe _ (by unfold rdDueName; rw [hu]; dsimp only; rw [hb, if_neg Bool.false_ne_true])).on (SameX.of s1)).same⟩)
  | true =>
    refine iteF ⟨_, rfl, q u (by unfold rdDueName; rw [hu]; dsimp only; rw [hb, if_pos rfl]) H1 s1⟩
theorem rdDueName_at {ws : List Str} {r : Nat} {u : Str} (h : rdDueName ws r = .ok u) : r < ws.length := by
  unfold rdDueName at h
  split at h
  · cases h
  · rename_i v e
    exact (List.getElem?_eq_some_iff.mp (rdDue_ok e).1).1
def spFinishX (C CT : Addr) : Sp := fun vs H Q E => ∃ (a : Addr) (n : Int) (ws : List Str) (r : Nat), vs = [.ref a] ∧ LnX C H a n ws r ∧ (∀ e, rdFinish ws r = .error e → FltX CT E a H n ws e) ∧ (rdFinish ws r = .ok () → Q .non H)
theorem d_finishX (T : TxtL K mg C) (D_Line_has_more : MDef P w K mg base (L2N.CX P w) 1 C "has_more" ["self"] [] (spHasMoreX C)) (D_Line_due : MDef P w K mg base (L2N.CX P w) 4 C "due" ["self"] [] (spDueX C CT)) (D_Line_refuse : MDef P w K mg base (L2N.CX P w) 3 C "refuse" ["self", "reason"] [] (spRefuse C CT)) (A : MAt K C "finish" "Line.finish" s_Line_finish ["self"]) : MDef P w K mg base (L2N.CX P w) 5 C "finish" ["self"] [] (spFinishX C CT) := by
  have B := T.B
  refine A.okX sc_Line_finish (fun vs H Q E h => ?_) (fun f cdv A outer s H vs Q E hr h => ?_)
  · obtain ⟨a, n, ws, r, rfl, _⟩ := h
    rfl
  obtain ⟨a, n, ws, r, rfl, hL, qe, q⟩ := h
  refine ⟨_, pss_one (ps_if (pt_val (pe_m0 D_Line_has_more T.c_Line.cl (hr.mono (by omega)) (passOut rfl rfl rfl rfl) (pv 0)))
      (pss_cons (ps_expr (pe_m0 D_Line_due T.c_Line.cl (hr.mono (by omega)) (passOut rfl rfl rfl rfl) (pv 0)))
      (pss_one (ps_expr (pe_m D_Line_refuse T.c_Line.cl (hr.mono (by omega)) (passOut rfl rfl rfl rfl) (pv 0) (pa_cons pe_str pa_nil)))))
      (pss_nil))
    , ?_⟩
  obtain ⟨_, _, g0, z0⟩ := LnX.no hL (m := "has_more") (by decide +kernel) (by decide +kernel) (by decide +kernel) (by decide +kernel)
  refine ⟨_, rfl, a, _, _, rfl, g0, z0, a, n, ws, r, rfl, hL, _, rfl, ?_⟩
  by_cases c : r < ws.length
  · refine iteT' (decide_eq_true c) ?_
    obtain ⟨_, _, g1, z1⟩ := LnX.no hL (m := "due") (by decide +kernel) (by decide +kernel) (by decide +kernel) (by decide +kernel)
    refine ⟨_, rfl, a, _, _, rfl, g1, z1, a, n, ws, r, rfl, hL, fun e he => qe e (by unfold rdFinish; rw [if_pos c, he]), fun u hu => ?_⟩
    (obtain ⟨_, _, g2, z2⟩ := LnX.no hL (m := "refuse") (by decide +kernel) (by decide +kernel) (by decide +kernel) (by decide +kernel); exact ⟨_, rfl, a, _, _, rfl, g2, z2, a, n, ws, r, _, rfl, hL, by decide +kernel, (qe _ (by unfold rdFinish; rw [if_pos c, hu])).same⟩)
  · exact iteF' (decide_eq_false c) (q (by unfold rdFinish; rw [if_neg c]))
theorem MAtD.okX {m qual : Str} {st : Stmt} {ps N : List Str} {k : Nat} {sp : Sp} {ds : List V} (F : MAtD K C m qual st ps ds) (S : FnScope N ps (defScope st)) (len : ∀ vs H Q E, sp vs H Q E → vs.length = ps.length)
    (hbody : ∀ (f : Addr) (cdv : Value) (A : Around) (outer : List Env) (s : Shared) (H : Hp) (vs : List V) (Q : VK) (E : XK), Room k (A.deeper (envOfC qual (defScope st) s.heap.objs.size f cdv)) → sp vs H Q E →
      ∃ t, PSs (cxOf (L2N.CX P w) P w K mg base N qual (defScope st) f cdv A outer s H E) (defBody st) t ∧ t { nx := fun _ H' => Q .non H', rt := Q } (start N vs) H) : MDef P w K mg base (L2N.CX P w) (k + 1) C m ps ds sp := by
  obtain ⟨f, fd, us, G, M, b, v⟩ := F.ex
  exact ⟨f, fd, us, G.ok S len (fun cdv A outer s H vs Q E hr h => hbody f cdv A outer s H vs Q E hr h), M, b, v⟩
theorem idxS_at {u : Str} : ∀ {ns : List Str}, u ∈ ns → ns[idxS u ns]? = some u
  | a :: r, h => by
    unfold idxS
    by_cases e : a = u
    · rw [if_pos e, e]
      rfl
    · rw [if_neg e, List.getElem?_cons_succ]
      rcases List.mem_cons.mp h with h | h
      · exact absurd h.symm e
      · exact idxS_at h
theorem idxS_first {u : Str} : ∀ {ns : List Str} {m : Nat} {z : Str}, m < idxS u ns → ns[m]? = some z → z ≠ u
  | [], _, _, _, h => by simp at h
  | a :: r, 0, z, h, hz => by
    have ez : a = z := Option.some.inj hz
    rw [← ez]
    intro e
    unfold idxS at h
    rw [if_pos e] at h
    exact absurd h (Nat.lt_irrefl _)
  | a :: r, m + 1, z, h, hz => by
    unfold idxS at h
    by_cases e : a = u
    · rw [if_pos e] at h
      omega
    · rw [if_neg e] at h
      exact idxS_first (m := m) (by omega) hz
def spKnownNameX (K : PySem.W.Frag) (C CT : Addr) : Sp := fun vs H Q E => ∃ (a : Addr) (n : Int) (ws : List Str) (r : Nat) (p : Addr) (ns : List Str) (least : Int), vs = [.ref a, .ref p, .int least] ∧ LnX C H a n ws r ∧ SqL K H p (ns.map V.str) ∧ (∀ e, rdKnown ws r ns least = .error e → FltX CT E a H n ws e) ∧
  ∀ j, rdKnown ws r ns least = .ok j → ∀ H', SameX a H H' → LnX C H' a n ws (r + 1) → Q (.int (j : Int)) H'
theorem d_read_known_nameX (T : TxtL K mg C) (D_Line_due_name : MDef P w K mg base (L2N.CX P w) 5 C "due_name" ["self"] [] (spDueNameX C CT)) (D_Line_refuse : MDef P w K mg base (L2N.CX P w) 3 C "refuse" ["self", "reason"] [] (spRefuse C CT)) (D_Line_step : MDef P w K mg base (L2N.CX P w) 1 C "step" ["self"] [] (spStepX C))
    (A : MAtD K C "read_known_name" "Line.read_known_name" s_Line_read_known_name ["self", "names", "least"] [.int 0]) : MDef P w K mg base (L2N.CX P w) 6 C "read_known_name" ["self", "names", "least"] [.int 0] (spKnownNameX K C CT) := by
  have B := T.B
  refine A.okX sc_Line_read_known_name (fun vs H Q E h => ?_) (fun f cdv A outer s H vs Q E hr h => ?_)
  · obtain ⟨a, n, ws, r, p, ns, least, rfl, _⟩ := h
    rfl
  obtain ⟨a, n, ws, r, p, ns, least, rfl, hL, hP, qe, q⟩ := h
  refine ⟨_, pss_cons (ps_set (i := 3) sc_Line_read_known_name.nd rfl (Or.inl rfl) (pe_m0 D_Line_due_name T.c_Line.cl (hr.mono (by omega)) (passOut rfl rfl rfl rfl) (pv 0)))
  (pss_cons (ps_if (pt_cmpR op_notIn_seq (pv 3) (pv 1) (by rfl))
      (pss_one (ps_expr (pe_m D_Line_refuse T.c_Line.cl (hr.mono (by omega)) (passOut rfl rfl rfl rfl) (pv 0) (pa_cons pe_str pa_nil))))
      (pss_nil))
  (pss_cons (ps_set (i := 4) sc_Line_read_known_name.nd rfl (Or.inl rfl) (pe_bm PySem.F.plainAttrs_list PySem.F.slot_list_index PySem.F.type_list_index mt_index (pv 1) (pa_cons (pv 3) pa_nil)))
  (pss_cons (ps_if (pt_cmpR op_lt (pv 4) (pv 2) (nomark _))
      (pss_one (ps_expr (pe_m D_Line_refuse T.c_Line.cl (hr.mono (by omega)) (passOut rfl rfl rfl rfl) (pv 0) (pa_cons pe_str pa_nil))))
      (pss_nil))
  (pss_cons (ps_expr (pe_m0 D_Line_step T.c_Line.cl (hr.mono (by omega)) (passOut rfl rfl rfl rfl) (pv 0)))
  (pss_one (ps_ret (pv 4)))))))
    , ?_⟩
  obtain ⟨_, _, g0, z0⟩ := LnX.no hL (m := "due_name") (by decide +kernel) (by decide +kernel) (by decide +kernel) (by decide +kernel)
  refine ⟨_, rfl, a, _, _, rfl, g0, z0, a, n, ws, r, rfl, hL, fun e he => qe e (by unfold rdKnown; rw [he]), fun u hu H1 s1 => ?_⟩
  have L1 := hL.same s1
  refine ⟨_, rfl, _, rfl, p, _, rfl, .inl (s1.seq hP), rfl, flat_strs, _, rfl, ?_⟩
  by_cases hc : u ∈ ns
  · refine iteF' (by rw [inV_str, decide_eq_true hc]; rfl) ?_
    refine ⟨_, rfl, .inl ⟨rfl, _, s1.seq hP⟩, _, rfl, p, _, _, idxS u ns, .str u, rfl, rfl, s1.seq hP, rfl, flat_strs, by rw [List.getElem?_map, idxS_at hc]; rfl, decide_eq_true rfl, fun m z hm hz => ?_, ?_⟩
    · rw [List.getElem?_map] at hz
      cases e : ns[m]? with
      | none => rw [e] at hz; cases hz
      | some y =>
        rw [e] at hz
        have ez : V.str y = z := Option.some.inj hz
        rw [← ez]
        exact decide_eq_false (idxS_first hm e)
    refine ⟨_, rfl, _, rfl, _, _, rfl, rfl, _, rfl, ?_⟩
    by_cases hl : (idxS u ns : Int) < least
    · refine iteT' (decide_eq_true hl) ?_
      (obtain ⟨_, _, g1, z1⟩ := LnX.no L1 (m := "refuse") (by decide +kernel) (by decide +kernel) (by decide +kernel) (by decide +kernel); exact ⟨_, rfl, a, _, _, rfl, g1, z1, a, n, ws, r, _, rfl, L1, by decide +kernel, ((qe _ (by unfold rdKnown; rw [hu]; dsimp only; rw [if_pos hc, if_pos hl])).on (SameX.of s1)).same⟩)
    · refine iteF' (decide_eq_false hl) ?_
      obtain ⟨_, _, g1, z1⟩ := LnX.no L1 (m := "step") (by decide +kernel) (by decide +kernel) (by decide +kernel) (by decide +kernel)
      refine ⟨_, rfl, a, _, _, rfl, g1, z1, a, n, ws, r, rfl, L1, rdDueName_at hu, fun H' s' L' => ?_⟩
      exact ⟨_, rfl, q _ (by unfold rdKnown; rw [hu]; dsimp only; rw [if_pos hc, if_neg hl]) H' ((SameX.of s1).trans s') L'⟩
  · refine iteT' (by rw [inV_str, decide_eq_false hc]; rfl) ?_
    (obtain ⟨_, _, g1, z1⟩ := LnX.no L1 (m := "refuse") (by decide +kernel) (by decide +kernel) (by decide +kernel) (by decide +kernel); exact ⟨_, rfl, a, _, _, rfl, g1, z1, a, n, ws, r, _, rfl, L1, by decide +kernel, ((qe _ (by unfold rdKnown; rw [hu]; dsimp only; rw [if_neg hc])).on (SameX.of s1)).same⟩)
end
end DP
namespace DP
open PySem PySem.Spec PyProof.Rows L2
def rdLight (ws : List Str) (h : Int) : Nat → Nat → Int → Rd Unit
  | 0, _, _ => .ok ()
  | k + 1, r, least => if r < ws.length then (match rdNum ws r least (h - 1) with
    | .error e => .error e
    | .ok f => match rdNum ws (r + 1) (f + 1) h with
      | .error e => .error e
      | .ok g => rdLight ws h k (r + 2) g) else .ok ()
/-- a reader's steps -/
def seq2 {α β : Type} (x : Rd α) (f : α → Rd β) : Rd β := match x with
  | .error e => .error e
  | .ok a => f a
def rdSat (ws : List Str) (h : Int) (used : List Str) : Rd Str :=
  seq2 (rdNew ws 1 used) fun nm => seq2 (rdField ws 2 "store" 0 1000000) fun _ => seq2 (rdField ws 4 "battery" 0 1000000) fun b => seq2 (rdField ws 6 "level" 0 b) fun l => seq2 (rdField ws 8 "reserve" 0 l) fun _ => seq2 (rdField ws 10 "charge" 0 1000) fun _ =>
  seq2 (rdField ws 12 "settle" 0 60) fun _ => seq2 (rdChoice ws 14 ["light"]) fun _ => seq2 (rdLight ws h ws.length 15 0) fun _ => .ok nm
def rdSta (ws : List Str) (used : List Str) : Rd Str :=
  seq2 (rdNew ws 1 used) fun nm => seq2 (rdField ws 2 "antennas" 1 3) fun _ => seq2 (rdField ws 4 "turn" 0 60) fun _ => .ok nm
def rdRec (ws : List Str) (h : Int) (sats used : List Str) : Rd Str :=
  seq2 (rdNew ws 1 used) fun nm => seq2 (rdChoice ws 2 ["by"]) fun _ => seq2 (rdKnown ws 3 sats 0) fun _ => seq2 (rdField ws 4 "from" 0 (h - 1)) fun e => seq2 (rdField ws 6 "to" e (if h - 1 < e + 20 then h - 1 else e + 20)) fun l => seq2 (rdField ws 8 "length" 1 (h - l)) fun _ =>
  seq2 (rdField ws 10 "size" 0 1000000) fun _ => seq2 (rdField ws 12 "energy" 0 1000000) fun _ => seq2 (rdField ws 14 "worth" 1 1000) fun _ => seq2 (rdField ws 16 "rank" 1 3) fun _ => seq2 (rdField ws 18 "until" 0 h) fun _ => .ok nm
def rdPas (ws : List Str) (h : Int) (sats stas used : List Str) : Rd Str :=
  seq2 (rdNew ws 1 used) fun nm => seq2 (rdChoice ws 2 ["by"]) fun _ => seq2 (rdKnown ws 3 sats 0) fun _ => seq2 (rdChoice ws 4 ["over"]) fun _ => seq2 (rdKnown ws 5 stas 0) fun _ => seq2 (rdField ws 6 "from" 0 (h - 1)) fun f => seq2 (rdField ws 8 "to" (f + 1) h) fun _ =>
  seq2 (rdField ws 10 "room" 0 1000000) fun _ => seq2 (rdField ws 12 "energy" 0 1000000) fun _ => seq2 (rdField ws 14 "fee" 0 1000) fun _ => .ok nm
theorem seq2_err {α β : Type} {x : Rd α} {f : α → Rd β} {e : Er} (h : x = .error e) : seq2 x f = .error e := by rw [h]; rfl
theorem seq2_ok {α β : Type} {x : Rd α} {f : α → Rd β} {a : α} (h : x = .ok a) : seq2 x f = f a := by rw [h]; rfl
end DP
namespace DP
open PySem PySem.Spec PyProof.Rows L2
section
variable {P : Program} {w : World} {K : PySem.W.Frag} {mg : Str → Option Value} {base : Heap} {CL CS CT CR CP CW aS aR fS fT fR fP CF : Addr}
theorem LnX.there {H : Hp} {a : Addr} {n : Int} {ws : List Str} {r : Nat} (h : LnX CL H a n ws r) : ∃ o, H a = some o := by
  obtain ⟨dx, wl, h1, h2⟩ := h.ex
  exact ⟨_, h1⟩
theorem NamesAt.sxX {H H' : Hp} {a : Addr} {n : Int} {ws : List Str} {r : Nat} {th : Addr} {i : Nat} {ns : List Str} (h : NamesAt K H th i ns) (hL : LnX CL H a n ws r) (s : SameX a H H') : NamesAt K H' th i ns := by
  obtain ⟨ls, l, xs, h1, h2, h3, h4, h5⟩ := h
  obtain ⟨dx, wl, g1, g2⟩ := hL.ex
  exact ⟨ls, l, xs, s.sqT g1 h1, h2, s.sqL g1 h3, Paired.mapP h4 fun _ _ z => z.elim fun b ⟨D, dy, gs, e1, e2, e3, e4, e5⟩ => ⟨b, D, dy, gs, e1, s _ _ (fun z => by
    rw [z, g1] at e2
    injection e2 with e2
    injection e2 with z1 z2 z3
    rw [← z3, lnF_no (by decide +kernel) (by decide +kernel) (by decide +kernel) (by decide +kernel)] at e5
    cases e5) e2, e3, e4, e5⟩, h5⟩
end
end DP
namespace DP
open PySem PySem.Spec PyProof.Rows L2
def mostN (i : Nat) : Int := mostK.getD i 0
def nmsAt (N : List (List Str)) (i : Nat) : List Str := N.getD i []
def rdSort (ws : List Str) (k : Nat) (N : List (List Str)) : Rd Nat := seq2 (rdDue ws 0) fun u => if u ∈ sortsL then (if idxS u sortsL < k then .error (0, "line out of order") else if ((nmsAt N (idxS u sortsL)).length : Int) = mostN (idxS u sortsL) then .error (0, "too many lines") else .ok (idxS u sortsL)) else .error (0, "unexpected word")
def rdKind (i : Nat) (ws : List Str) (h : Int) (N : List (List Str)) : Rd Str := if i = 0 then rdSat ws h (nmsAt N 0) else if i = 1 then rdSta ws (nmsAt N 1) else if i = 2 then rdRec ws h (nmsAt N 0) (nmsAt N 2) else rdPas ws h (nmsAt N 0) (nmsAt N 1) (nmsAt N 3)
def finK (i : Nat) (ws : List Str) : Nat := if i = 0 then ws.length else if i = 1 then 6 else if i = 2 then 20 else 16
def rdLine (h : Int) (k : Nat) (N : List (List Str)) (ws : List Str) : Rd (Nat × List (List Str)) :=
  seq2 (rdSort ws k N) fun i => seq2 (rdKind i ws h N) fun nm => seq2 (rdFinish ws (finK i ws)) fun _ => .ok (i, N.set i (nmsAt N i ++ [nm]))
abbrev Flt := Int × Int × Str
def rdAll (h : Int) : List (List Str) → Int → Nat → List (List Str) → Except Flt Unit
  | [], _, _, _ => .ok ()
  | ws :: rest, n, k, N => match rdLine h k N ws with
    | .error e => .error (n, colW ws e.1, e.2)
    | .ok s => rdAll h rest (n + 1) s.1 s.2
section
variable {P : Program} {w : World} {K : PySem.W.Frag} {mg : Str → Option Value} {base : Heap} {CL CS CT CR CP CW aS aR fS fT fR fP CF : Addr}
/-- the four lists of the things so far -/
structure ThN (K : PySem.W.Frag) (H : Hp) (th : Addr) (ls : List Addr) (N : List (List Str)) : Prop where
  tup : H th = some (.tup (ls.map V.ref))
  nd : ls.Nodup
  len : ls.length = 4
  lenN : N.length = 4
  at_ : ∀ i l, ls[i]? = some l → ∃ xs, H l = some (.lst xs) ∧ Paired (Named K H) xs (nmsAt N i) ∧ (nmsAt N i).length ≤ 100 ∧ ∀ y ∈ xs, ∃ t, y = V.ref t
theorem ThN.same {H H' : Hp} {th : Addr} {ls : List Addr} {N : List (List Str)} (h : ThN K H th ls N) (s : Same H H') : ThN K H' th ls N :=
  ⟨s _ _ h.tup, h.nd, h.len, h.lenN, fun i l hl => by
    obtain ⟨xs, h1, h2, h3, h4⟩ := h.at_ i l hl
    exact ⟨xs, s _ _ h1, Paired.mapP h2 fun _ _ z => z.same s, h3, h4⟩⟩
theorem LnX.named {H H' : Hp} {a : Addr} {n : Int} {ws : List Str} {r : Nat} (hL : LnX CL H a n ws r) (s : SameX a H H') {x : V} {nm : Str} (h : Named K H x nm) : Named K H' x nm := by
  obtain ⟨dx, wl, g1, g2⟩ := hL.ex
  exact s.named g1 (lnF_no (by decide +kernel) (by decide +kernel) (by decide +kernel) (by decide +kernel)) h
theorem ThN.sx {H H' : Hp} {a : Addr} {n : Int} {ws : List Str} {r : Nat} {th : Addr} {ls : List Addr} {N : List (List Str)} (h : ThN K H th ls N) (hL : LnX CL H a n ws r) (s : SameX a H H') : ThN K H' th ls N := by
  obtain ⟨dx, wl, g1, g2⟩ := hL.ex
  refine ⟨s _ _ (ne_of h.tup g1 (fun z => nomatch z)) h.tup, h.nd, h.len, h.lenN, fun i l hl => ?_⟩
  obtain ⟨xs, h1, h2, h3, h4⟩ := h.at_ i l hl
  exact ⟨xs, s _ _ (ne_of h1 g1 (fun z => nomatch z)) h1, Paired.mapP h2 fun _ _ z => hL.named s z, h3, h4⟩
theorem ThN.names {H : Hp} {th : Addr} {ls : List Addr} {N : List (List Str)} (h : ThN K H th ls N) {i : Nat} (hi : i < 4) : NamesAt K H th i (nmsAt N i) := by
  have hil : i < ls.length := by rw [h.len]; exact hi
  have hl : ls[i]? = some ls[i] := List.getElem?_eq_getElem hil
  obtain ⟨xs, h1, h2, h3, h4⟩ := h.at_ i _ hl
  exact ⟨ls, _, xs, SqT.of h.tup, hl, SqL.of h1, h2, h3⟩
theorem Named.up {H : Hp} {L : Addr} {ys : List V} {o : HO} {x : V} {nm : Str} (h : Named K H x nm) (e : H L = some (.lst ys)) : Named K (L2.upd H L o) x nm := by
  obtain ⟨b, D, dy, gs, e1, e2, e3⟩ := h
  exact ⟨b, D, dy, gs, e1, by rw [upd_ne (ne_of e2 e (fun z => nomatch z))]; exact e2, e3⟩
theorem ThN.push {H : Hp} {th : Addr} {ls : List Addr} {N : List (List Str)} {i : Nat} {l b : Addr} {xs : List V} {nm : Str} (h : ThN K H th ls N) (hl : ls[i]? = some l) (e : H l = some (.lst xs)) (k : Named K H (.ref b) nm) (hz : (nmsAt N i).length < 100) :
    ThN K (L2.upd H l (.lst (xs ++ [.ref b]))) th ls (N.set i (nmsAt N i ++ [nm])) := by
  have hi : i < 4 := by rw [← h.len]; exact (List.getElem?_eq_some_iff.mp hl).1
  refine ⟨by rw [upd_ne (ne_of h.tup e (fun z => nomatch z))]; exact h.tup, h.nd, h.len, by rw [List.length_set]; exact h.lenN, fun j l' hj => ?_⟩
  obtain ⟨ys, h1, h2, h3, h4⟩ := h.at_ j l' hj
  by_cases c : j = i
  · subst c
    rw [hl] at hj
    cases hj
    rw [e] at h1
    cases h1
    have en : nmsAt (N.set j (nmsAt N j ++ [nm])) j = nmsAt N j ++ [nm] := by
      show (N.set j _).getD j [] = _
      rw [List.getD_eq_getElem?_getD, List.getElem?_set_self (by rw [h.lenN]; exact hi)]
      rfl
    rw [en]
    refine ⟨_, upd_same, paired_snoc (Paired.mapP h2 fun _ _ z => z.up e) (k.up e), by rw [List.length_append, List.length_singleton]; omega, fun y hy => ?_⟩
    rcases List.mem_append.mp hy with hy | hy
    · exact h4 y hy
    · exact ⟨b, List.mem_singleton.mp hy⟩
  · have en : nmsAt (N.set i (nmsAt N i ++ [nm])) j = nmsAt N j := by
      show (N.set i _).getD j [] = N.getD j []
      rw [List.getD_eq_getElem?_getD, List.getElem?_set_ne (fun z => c z.symm), List.getD_eq_getElem?_getD]
    have nl : l' ≠ l := fun z => by
      subst z
      obtain ⟨q1, e1⟩ := List.getElem?_eq_some_iff.mp hl
      obtain ⟨q2, e2⟩ := List.getElem?_eq_some_iff.mp hj
      exact c ((List.getElem_inj h.nd).mp (e2.trans e1.symm))
    rw [en]
    exact ⟨ys, by rw [upd_ne nl]; exact h1, Paired.mapP h2 fun _ _ z => z.up e, h3, h4⟩
/-- a line stays where a list of objects is changed -/
theorem LnX.up {H : Hp} {a L : Addr} {n : Int} {ws : List Str} {r : Nat} {ys : List V} {o : HO} (h : LnX CL H a n ws r) (hne : ws ≠ []) (e : H L = some (.lst ys)) (hr : ∀ y ∈ ys, ∃ t, y = V.ref t) : LnX CL (L2.upd H L o) a n ws r := by
  obtain ⟨dx, wl, h1, h2⟩ := h.ex
  refine ⟨⟨dx, wl, by rw [upd_ne (ne_of h1 e (fun z => nomatch z))]; exact h1, ?_⟩, h.n0, h.n1, h.le, h.wl, h.sz⟩
  rw [upd_ne]
  · exact h2
  · intro z
    rw [z, e] at h2
    have e2 : ys = ws.map V.str := HO.lst.inj (Option.some.inj h2)
    cases ws with
    | nil => exact hne rfl
    | cons w wr =>
      obtain ⟨t, ht⟩ := hr (.str w) (by rw [e2]; exact List.mem_cons_self)
      cases ht
theorem LnX.sx {H H' : Hp} {a b : Addr} {n m : Int} {ws vs : List Str} {r q : Nat} (h : LnX CL H a n ws r) (hL : LnX CL H b m vs q) (ne : a ≠ b) (z : SameX b H H') : LnX CL H' a n ws r := by
  obtain ⟨dx', wl', g1, g2⟩ := hL.ex
  obtain ⟨dx, wl, h1, h2⟩ := h.ex
  exact ⟨⟨dx, wl, z _ _ ne h1, z _ _ (ne_of h2 g1 (fun z => nomatch z)) h2⟩, h.n0, h.n1, h.le, h.wl, h.sz⟩
end
end DP
namespace DP
open PySem PySem.Spec PyProof.Rows L2
section
variable {P : Program} {w : World} {K : PySem.W.Frag} {mg : Str → Option Value} {base : Heap} {CL CS CT CR CP CW aS aR fS fT fR fP CF : Addr}
theorem SameA.free {as : List Addr} {H H' : Hp} {x : Addr} (s : SameA as H H') (h : H' x = none) (n : x ∉ as) : H x = none := by
  cases q : H x with
  | none => rfl
  | some u =>
    have e := s x u n q
    rw [h] at e
    cases e
end
end DP
namespace DP
open PySem PySem.Spec PyProof.Rows L2
/-- a line's words stand as they are -/
structure LnOk (l : List Str) : Prop where
  ne : l ≠ []
  sp : Txt.split (row l) sp = l
  len : (row l).length ≤ 100000
  wl : ∀ w ∈ l, w.length ≤ 40
  sz : l.length ≤ 2000
def rdWorld : List (List Str) → Except Flt Int
  | [] => .error (1, 1, "missing line")
  | l :: rest => match seq2 (rdField l 0 "horizon" 1 500) fun h => seq2 (rdFinish l 2) fun _ => .ok h with
    | .error e => .error (1, colW l e.1, e.2)
    | .ok h => match rdAll h rest 2 0 [[], [], [], []] with
      | .error f => .error f
      | .ok _ => .ok h
def rdText (lns : List (List Str)) (last : Str) : Except Flt Int := if last = Str.empty then rdWorld lns else .error ((lns.length : Int) + 1, (last.length : Int) + 1, "newline expected")
section
variable {P : Program} {w : World} {K : PySem.W.Frag} {mg : Str → Option Value} {base : Heap} {CL CS CT CR CP CW aS aR fS fT fR fP C CF : Addr}
def spLnInitX (C : Addr) : Sp := fun vs H Q _ => ∃ (x dx : Addr) (n : Int) (ws : List Str), vs = [.ref x, .int n, .str (row ws)] ∧ H x = some (.ins C dx []) ∧ LnOk ws ∧ 0 ≤ n ∧ n < 1000000 ∧
  ∀ H', SameX x H H' → LnX C H' x n ws 0 → Q .non H'
theorem d_Line_initX (T : TxtL K mg C) (A : MAt K C "__init__" "Line.__init__" s_Line___init__ ["self", "number", "row"]) : MDef P w K mg base CX0 1 C "__init__" ["self", "number", "row"] [] (spLnInitX C) := by
  refine A.ok sc_Line___init__ (fun vs H Q E h => ?_) (fun f cdv A outer s H vs Q E hr h => ?_)
  · obtain ⟨x, dx, n, ws, rfl, _⟩ := h
    rfl
  obtain ⟨x, dx, n, ws, rfl, hx, ok, n0, n1, q⟩ := h
  refine ⟨_, pss_cons (ps_fld (pv 0) (pv 1) rfl)
  (pss_cons (ps_fld (pv 0) (pe_split (pv 2) pe_str) rfl)
  (pss_cons (ps_fld (pv 0) pe_int rfl)
  (pss_one (ps_fld (pv 0) pe_int rfl))))
    , ?_⟩
  refine ⟨_, rfl, _, rfl, x, C, dx, _, rfl, hx, T.c_Line.cl, T.n_number, (by show 0 < 1000; decide), ?_⟩
  refine ⟨_, rfl, ⟨_, rfl⟩, _, sp, rfl, rfl, by decide +kernel, Nat.le_trans (Nat.add_le_add_right ok.len 2) (by decide), fun wl hwl => ?_⟩
  have exw : x ≠ wl := fun z => by
    rw [← z, upd_same] at hwl
    cases hwl
  refine ⟨_, rfl, x, C, dx, _, rfl, (upd_ne exw).trans upd_same, T.c_Line.cl, T.n_words, (by repeat (first | refine put_lt0 ?_ | refine put_lt ?_ | (show _ < _; decide))), ?_⟩
  refine ⟨_, rfl, x, C, dx, _, rfl, upd_same, T.c_Line.cl, T.n_read, (by repeat (first | refine put_lt0 ?_ | refine put_lt ?_ | (show _ < _; decide))), ?_⟩
  refine ⟨_, rfl, x, C, dx, _, rfl, upd_same, T.c_Line.cl, T.n_column, (by repeat (first | refine put_lt0 ?_ | refine put_lt ?_ | (show _ < _; decide))), ?_⟩
  have hwl0 : H wl = none := by
    rw [upd_ne exw.symm] at hwl
    exact hwl
  refine q _ (fun b o nb hb => ?_) ⟨⟨dx, wl, ?_, ?_⟩, n0, n1, Nat.zero_le _, ok.wl, ok.sz⟩
  · rw [upd_ne nb, upd_ne nb, upd_ne nb, upd_ne (ne_of_none hb hwl0), upd_ne nb]
    exact hb
  · rw [upd_same]
    unfold lnF
    repeat (first | rw [put_nil] | rw [put_miss (by decide +kernel)])
    rfl
  · rw [upd_ne exw.symm, upd_ne exw.symm, upd_ne exw.symm, upd_same, ok.sp]
def spLinesX (C CF : Addr) : Sp := fun vs H Q E => ∃ (text : Str) (lns : List (List Str)) (last : Str), vs = [.str text] ∧ Txt.split text nl = lns.map row ++ [last] ∧ (∀ l ∈ lns, LnOk l) ∧ lns.length ≤ 100 ∧ text.length ≤ 1000000 ∧ last.length ≤ 100000 ∧
  (last ≠ Str.empty → FltE CF E (Same H) ((lns.length : Int) + 1) ((last.length : Int) + 1) "newline expected") ∧
  (last = Str.empty → ∀ (p : Addr) (as : List Addr) (H' : Hp), Same H H' → H p = none → (∀ a ∈ as, H a = none) → as.Nodup → H' p = some (.lst (as.map V.ref)) → as.length = lns.length → (∀ (j : Nat) a l, as[j]? = some a → lns[j]? = some l → LnX C H' a (1 + j) l 0) → Q (.ref p) H')
set_option maxHeartbeats 8000000 in
theorem d_lines_ofX (T : TxtL K mg C) (TF : TfAt K mg CF) (SP : SupP P) (DI_Line : MDef P w K mg base CX0 1 C "__init__" ["self", "number", "row"] [] (spLnInitX C)) (A : At K mg "lines_of" s_lines_of ["text"]) : DefOk P w K mg base (L2N.CX P w) 4 "lines_of" ["text"] (spLinesX C CF) := by
  have B := T.B
  refine A.okX sc_lines_of (fun vs H Q E h => ?_) (fun f cdv A outer s H vs Q E hr h => ?_)
  · obtain ⟨text, lns, last, rfl, _⟩ := h
    rfl
  obtain ⟨text, lns, last, rfl, hsplit, hok, hn, hz, hlast, qe, q⟩ := h
  obtain ⟨fI, fd, i1, i2, ox, bd, F1⟩ := d_TF (w := w) (base := base) (CX := CX0) TF SP
  refine ⟨_, pss_cons (ps_set (i := 1) sc_lines_of.nd rfl (Or.inl rfl) (pe_split (pv 0) pe_str))
  (pss_cons (ps_set (i := 2) sc_lines_of.nd rfl (Or.inl rfl) (pe_bm0 PySem.F.plainAttrs_list PySem.F.slot_list_pop PySem.F.type_list_pop mt_pop (pv 1)))
  (pss_cons (ps_if (pt_cmpR op_ne (pv 2) pe_str (nomark _))
      (pss_one (L2N.ps_raise rfl (L2N.takes_of rfl rfl rfl rfl) (pmkN_oex ox i1 i2 F1 (hr.mono (by omega)) bd pass0 rfl TF.g (pa_cons (pe_op op_add (pe_callB (call_len_seq) (by rfl) B.len (by decide +kernel) (pa_cons (pv 1) pa_nil)) pe_int) (pa_cons (pe_op op_add (pe_callB (call_len_str) (by rfl) B.len (by decide +kernel) (pa_cons (pv 2) pa_nil)) pe_int) (pa_cons pe_str pa_nil))))))
      (pss_nil))
  (pss_one (ps_ret (pe_lc (own := [("number", 3), ("row", 4)])  rfl sc_lines_of.nd (pi_enumS (by rfl) B.enumerate (pa_cons (pv 1) pa_nil) (pk_cons pe_int pk_nil)) (blkOk_by (own := [("number", 3), ("row", 4)]) (N := ["text", "rows", "last", "number", "row"]) (sc := defScope s_lines_of) (by decide +kernel)) (fun _ _ _ _ _ => pg_tupK (K := K) (n := 2) rfl (by rfl) (pgs_cons (pg_name (i := 3) sc_lines_of.nd rfl (Or.inl rfl)) (pgs_cons (pg_name (i := 4) sc_lines_of.nd rfl (Or.inl rfl)) (pgs_nil)))) (fun _ _ _ _ _ => pts_nil) (fun _ _ _ _ _ => (pe_mk DI_Line T.c_Line (hr.mono (by omega)) pass0 (pa_cons (pv 3) (pa_cons (pv 4) pa_nil)))))))))
    , ?_⟩
  refine ⟨_, rfl, ⟨_, rfl⟩, _, nl, rfl, rfl, by decide +kernel, Nat.le_trans (Nat.add_le_add_right hz 2) (by decide), fun rl hrl => ?_⟩
  have e0 : upd H rl (.lst ((Txt.split text nl).map V.str)) = upd H rl (.lst ((lns.map row).map V.str ++ [.str last])) := by
    rw [hsplit, List.map_append]
    rfl
  rw [e0]
  refine ⟨_, rfl, .inl ⟨rfl, _, SqL.of upd_same⟩, rl, _, .str last, rfl, rfl, upd_same, by rw [List.length_append, List.length_singleton, Nat.add_sub_cancel, List.getElem?_append_right (Nat.le_refl _), Nat.sub_self]; rfl, ?_⟩
  rw [upd_upd, List.dropLast_concat]
  refine ⟨_, rfl, rfl, _, rfl, ?_⟩
  have sS : Same H (upd H rl (.lst ((lns.map row).map V.str))) := same_new hrl _
  by_cases hl : last = Str.empty
  · refine iteF' (by rw [decide_eq_true (show V.str last = V.str (Str.ofString "") by rw [hl]; exact congrArg V.str (by decide +kernel))]; rfl) ?_
    refine ⟨_, rfl, _, _, 1, rfl, rfl, SqL.of upd_same, by decide, by decide, fun D hD => ?_⟩
    have hrlD : rl ≠ D := fun z => by
      rw [← z, upd_same] at hD
      cases hD
    have hD0 : H D = none := by
      rw [upd_ne hrlD.symm] at hD
      exact hD
    refine lc_it (walk_enumS (xs := (lns.map row).map V.str)) (fun i H' => ∃ as : List Addr, as.length = i ∧ H' D = some (.lst (as.map V.ref)) ∧ Same (upd H rl (.lst ((lns.map row).map V.str))) H' ∧ (∀ a ∈ as, H a = none) ∧ as.Nodup ∧ ∀ (j : Nat) a l, as[j]? = some a → lns[j]? = some l → LnX C H' a (1 + j) l 0)
      ⟨[], rfl, upd_same, same_new hD _, fun _ z => absurd z List.not_mem_nil, List.nodup_nil, fun j a l z => by simp at z⟩ (fun i H1 _ ⟨as, _, _, z, _⟩ => z.seq (SqL.of upd_same)) (fun i x H1 H2 hi hI hy => ?_) (fun H1 hI => ?_)
    · obtain ⟨T', x2, rfl, hT', rfl, hx2⟩ := hy
      obtain ⟨as, ha, hDD, hs, hfr, hnd, hpr⟩ := hI
      have hi' : i < lns.length := by
        rw [List.length_map, List.length_map] at hi
        exact hi
      have ex2 : x2 = .str (row lns[i]) := by
        rw [List.getElem?_map, List.getElem?_map, List.getElem?_eq_getElem hi'] at hx2
        exact (Option.some.inj hx2).symm
      subst ex2
      have hok' := hok _ (List.getElem_mem hi')
      have s12 := same_new hT' (.tup [.int (1 + (i : Int)), .str (row lns[i])])
      refine ⟨T', _, rfl, SqT.of upd_same, rfl, _, _, rfl, _, _, rfl, rfl, rfl, _, rfl, _, rfl, fun x dx hx hdx ne => ?_⟩
      refine ⟨x, dx, _, lns[i], rfl, upd_same, hok', by omega, by omega, fun H3 s3 L3 => ⟨rfl, ?_⟩⟩
      have s13 : Same H1 H3 := s12.trans (same_mk hx hdx s3)
      have hxH : H x = none := (sS.trans (hs.trans s12)).free hx
      refine ⟨_, s13 _ _ hDD, by rw [List.length_map, ha]; exact small1000 (by omega), as ++ [x], by rw [List.length_append, ha, List.length_singleton], by rw [upd_same, List.map_append]; rfl, same_at hD (hs.trans s13) _, ?_, ?_, ?_⟩
      · intro a hma
        rcases List.mem_append.mp hma with hma | hma
        · exact hfr a hma
        · rw [List.mem_singleton.mp hma]; exact hxH
      · refine List.nodup_append.mpr ⟨hnd, List.pairwise_singleton _ _, fun a hma b hmb z => ?_⟩
        rw [List.mem_singleton.mp hmb] at z
        subst z
        obtain ⟨j, hj, ej⟩ := List.mem_iff_getElem.mp hma
        have hjl : j < lns.length := by omega
        have hla := hpr j a _ (by rw [List.getElem?_eq_getElem hj, ej]) (List.getElem?_eq_getElem hjl)
        obtain ⟨d1, d2, g1, _⟩ := hla.ex
        rw [(s12 _ _ g1)] at hx
        cases hx
      · have upL : ∀ {a : Addr} {m : Int} {l : List Str}, l ≠ [] → LnX C H3 a m l 0 → LnX C (upd H3 D (.lst (as.map V.ref ++ [.ref x]))) a m l 0 := fun {a m l} hne h => by
          obtain ⟨d1, d3, g1, g2⟩ := h.ex
          have gD := s13 _ _ hDD
          refine ⟨⟨d1, d3, by rw [upd_ne (ne_of g1 gD (fun z => nomatch z))]; exact g1, ?_⟩, h.n0, h.n1, h.le, h.wl, h.sz⟩
          have n2 : d3 ≠ D := fun z => by
            rw [z, gD] at g2
            injection g2 with g2
            injection g2 with g2
            cases l with
            | nil => exact hne rfl
            | cons b bs => cases as with
              | nil => cases g2
              | cons c cs => cases g2
          rw [upd_ne n2]
          exact g2
        intro j a l hj hlj
        have hlne := (hok l (List.mem_of_getElem? hlj)).ne
        by_cases c : j < as.length
        · rw [List.getElem?_append_left c] at hj
          exact upL hlne ((hpr j a l hj hlj).same s13)
        · have cj : j = i := by
            have := (List.getElem?_eq_some_iff.mp hj).1
            rw [List.length_append, List.length_singleton] at this
            omega
          subst cj
          rw [List.getElem?_append_right (by omega), ha, Nat.sub_self] at hj
          have ex : x = a := Option.some.inj hj
          subst ex
          rw [List.getElem?_eq_getElem hi'] at hlj
          cases hlj
          exact upL hlne L3
    · obtain ⟨as, ha, hDD, hs, hfr, hnd, hpr⟩ := hI
      rw [List.length_map, List.length_map] at ha
      exact q hl D as H1 (sS.trans hs) hD0 hfr hnd hDD ha hpr
  · refine iteT' (by rw [decide_eq_false (show ¬ V.str last = V.str (Str.ofString "") from fun z => hl ((V.str.inj z).trans (by decide +kernel)))]; rfl) ?_
    refine ⟨_, rfl, rl, _, rfl, .inl (SqL.of upd_same), _, _, rfl, rfl, _, rfl, _, rfl, Nat.le_trans hlast (by decide), _, _, rfl, rfl, (by show 3 ≤ 1000; decide), fun x hx => ?_⟩
    rw [List.length_map, List.length_map]
    refine ⟨x, _, _, _, rfl, upd_same, by omega, by omega, by omega, by omega, by decide +kernel, fun d hd dne => ?_⟩
    have hdH : upd H rl (.lst ((lns.map row).map V.str)) d = none := by rw [upd_ne dne] at hd; exact hd
    refine ⟨rfl, d, _, (upd_ne (Ne.symm dne)).trans ((upd_ne (Ne.symm dne)).trans upd_same), upd_same, hdH, qe hl d _ (fun b o hb => ?_) upd_same⟩
    have hb1 := sS _ _ hb
    have b1 : b ≠ x := ne_of_none hb1 hx
    have b2 : b ≠ d := ne_of_none hb1 hdH
    rw [upd_ne b2, del_ne b1, upd_ne b2, upd_ne b2, upd_ne b1, upd_ne b2, upd_ne b1]
    exact hb1
end
end DP
namespace DP
open PySem PySem.Spec PyProof.Rows L2
section
variable {P : Program} {w : World} {K : PySem.W.Frag} {mg : Str → Option Value} {base : Heap} {CL CS CT CR CP CW aS aR fS fT fR fP C CF : Addr}
theorem SAt.okX {m qual : Str} {st : Stmt} {ps N : List Str} {k : Nat} {sp : Sp} (F : SAt K C m qual st ps) (S : FnScope N ps (defScope st)) (len : ∀ vs H Q E, sp vs H Q E → vs.length = ps.length)
    (hbody : ∀ (f : Addr) (cdv : Value) (A : Around) (outer : List Env) (s : Shared) (H : Hp) (vs : List V) (Q : VK) (E : XK), Room k (A.deeper (envOfC qual (defScope st) s.heap.objs.size f cdv)) → sp vs H Q E →
      ∃ t, PSs (cxOf (L2N.CX P w) P w K mg base N qual (defScope st) f cdv A outer s H E) (defBody st) t ∧ t { nx := fun _ H' => Q .non H', rt := Q } (start N vs) H) : SDef P w K mg base (L2N.CX P w) (k + 1) C m ps sp := by
  obtain ⟨f, fd, G, M, b⟩ := F.ex
  exact ⟨f, fd, fun_okN G S len (fun cdv A outer s H vs Q E hr h => hbody f cdv A outer s H vs Q E hr h), M, G.kp, b⟩
end
end DP
namespace DP
open PySem PySem.Spec PyProof.Rows L2
structure PF (K : PySem.W.Frag) (mg : Str → Option Value) (CL CS CT CR CP CW : Addr) : Prop where
  p_names_of : At K mg "names_of" s_names_of ["things"]
  p_read_light : At K mg "read_light" s_read_light ["line", "horizon"]
  p_read_satellite : At K mg "read_satellite" s_read_satellite ["line", "horizon", "things"]
  p_read_station : At K mg "read_station" s_read_station ["line", "_", "things"]
  p_read_recording : At K mg "read_recording" s_read_recording ["line", "horizon", "things"]
  p_read_pass : At K mg "read_pass" s_read_pass ["line", "horizon", "things"]
  p_most_things : At K mg "most_things" s_most_things ["sort"]
  p_read_sort : At K mg "read_sort" s_read_sort ["line", "ahead", "things"]
  p_read_things : At K mg "read_things" s_read_things ["lines", "horizon"]
  p_lines_of : At K mg "lines_of" s_lines_of ["text"]
  p_is_name : At K mg "is_name" s_is_name ["word"]
  p_is_number : At K mg "is_number" s_is_number ["word"]
  p_Line___init__ : MAt K CL "__init__" "Line.__init__" s_Line___init__ ["self", "number", "row"]
  p_Line_has_more : MAt K CL "has_more" "Line.has_more" s_Line_has_more ["self"]
  p_Line_due : MAt K CL "due" "Line.due" s_Line_due ["self"]
  p_Line_step : MAt K CL "step" "Line.step" s_Line_step ["self"]
  p_Line_read_choice : MAt K CL "read_choice" "Line.read_choice" s_Line_read_choice ["self", "choices"]
  p_Line_read_number : MAt K CL "read_number" "Line.read_number" s_Line_read_number ["self", "least", "most"]
  p_Line_read_field : MAt K CL "read_field" "Line.read_field" s_Line_read_field ["self", "word", "least", "most"]
  p_Line_due_name : MAt K CL "due_name" "Line.due_name" s_Line_due_name ["self"]
  p_Line_read_new_name : MAt K CL "read_new_name" "Line.read_new_name" s_Line_read_new_name ["self", "used"]
  p_Line_read_known_name : MAtD K CL "read_known_name" "Line.read_known_name" s_Line_read_known_name ["self", "names", "least"] [.int 0]
  p_Line_finish : MAt K CL "finish" "Line.finish" s_Line_finish ["self"]
  p_Satellite___init__ : MAt K CS "__init__" "Satellite.__init__" s_Satellite___init__ ["self", "name", "store", "battery", "start_level", "reserve", "charge", "settle", "light"]
  p_Station___init__ : MAt K CT "__init__" "Station.__init__" s_Station___init__ ["self", "name", "antennas", "turn"]
  p_Recording___init__ : MAt K CR "__init__" "Recording.__init__" s_Recording___init__ ["self", "name", "satellite", "earliest", "latest", "length", "size", "energy", "worth", "rank", "deadline"]
  p_Pass___init__ : MAt K CP "__init__" "Pass.__init__" s_Pass___init__ ["self", "name", "satellite", "station", "span", "room", "energy", "fee"]
  p_World___init__ : MAt K CW "__init__" "World.__init__" s_World___init__ ["self", "text", "horizon", "things"]
  p_World_parse : SAt K CW "parse" "World.parse" s_World_parse ["text"]
theorem hb_names_of : ∀ (kV doc pm : Value) (an : Option Addr) (cdv ct : Value) (us : List Value), us.length = (["things"] : List Str).length → bindArgs (PySem.W.fnOf "names_of" "names_of" (defArgs s_names_of) (defBody s_names_of) (defScope s_names_of) .none kV doc pm an cdv ct) ⟨us, []⟩ = pure ((["things"] : List Str).zip us) :=
  fun _ _ _ _ _ _ us hl => match us, hl with | [_], _ => rfl
theorem hb_read_light : ∀ (kV doc pm : Value) (an : Option Addr) (cdv ct : Value) (us : List Value), us.length = (["line", "horizon"] : List Str).length → bindArgs (PySem.W.fnOf "read_light" "read_light" (defArgs s_read_light) (defBody s_read_light) (defScope s_read_light) .none kV doc pm an cdv ct) ⟨us, []⟩ = pure ((["line", "horizon"] : List Str).zip us) :=
  fun _ _ _ _ _ _ us hl => match us, hl with | [_, _], _ => rfl
theorem hb_read_satellite : ∀ (kV doc pm : Value) (an : Option Addr) (cdv ct : Value) (us : List Value), us.length = (["line", "horizon", "things"] : List Str).length → bindArgs (PySem.W.fnOf "read_satellite" "read_satellite" (defArgs s_read_satellite) (defBody s_read_satellite) (defScope s_read_satellite) .none kV doc pm an cdv ct) ⟨us, []⟩ = pure ((["line", "horizon", "things"] : List Str).zip us) :=
  fun _ _ _ _ _ _ us hl => match us, hl with | [_, _, _], _ => rfl
theorem hb_read_station : ∀ (kV doc pm : Value) (an : Option Addr) (cdv ct : Value) (us : List Value), us.length = (["line", "_", "things"] : List Str).length → bindArgs (PySem.W.fnOf "read_station" "read_station" (defArgs s_read_station) (defBody s_read_station) (defScope s_read_station) .none kV doc pm an cdv ct) ⟨us, []⟩ = pure ((["line", "_", "things"] : List Str).zip us) :=
  fun _ _ _ _ _ _ us hl => match us, hl with | [_, _, _], _ => rfl
theorem hb_read_recording : ∀ (kV doc pm : Value) (an : Option Addr) (cdv ct : Value) (us : List Value), us.length = (["line", "horizon", "things"] : List Str).length → bindArgs (PySem.W.fnOf "read_recording" "read_recording" (defArgs s_read_recording) (defBody s_read_recording) (defScope s_read_recording) .none kV doc pm an cdv ct) ⟨us, []⟩ = pure ((["line", "horizon", "things"] : List Str).zip us) :=
  fun _ _ _ _ _ _ us hl => match us, hl with | [_, _, _], _ => rfl
theorem hb_read_pass : ∀ (kV doc pm : Value) (an : Option Addr) (cdv ct : Value) (us : List Value), us.length = (["line", "horizon", "things"] : List Str).length → bindArgs (PySem.W.fnOf "read_pass" "read_pass" (defArgs s_read_pass) (defBody s_read_pass) (defScope s_read_pass) .none kV doc pm an cdv ct) ⟨us, []⟩ = pure ((["line", "horizon", "things"] : List Str).zip us) :=
  fun _ _ _ _ _ _ us hl => match us, hl with | [_, _, _], _ => rfl
theorem hb_most_things : ∀ (kV doc pm : Value) (an : Option Addr) (cdv ct : Value) (us : List Value), us.length = (["sort"] : List Str).length → bindArgs (PySem.W.fnOf "most_things" "most_things" (defArgs s_most_things) (defBody s_most_things) (defScope s_most_things) .none kV doc pm an cdv ct) ⟨us, []⟩ = pure ((["sort"] : List Str).zip us) :=
  fun _ _ _ _ _ _ us hl => match us, hl with | [_], _ => rfl
theorem hb_read_sort : ∀ (kV doc pm : Value) (an : Option Addr) (cdv ct : Value) (us : List Value), us.length = (["line", "ahead", "things"] : List Str).length → bindArgs (PySem.W.fnOf "read_sort" "read_sort" (defArgs s_read_sort) (defBody s_read_sort) (defScope s_read_sort) .none kV doc pm an cdv ct) ⟨us, []⟩ = pure ((["line", "ahead", "things"] : List Str).zip us) :=
  fun _ _ _ _ _ _ us hl => match us, hl with | [_, _, _], _ => rfl
theorem hb_read_things : ∀ (kV doc pm : Value) (an : Option Addr) (cdv ct : Value) (us : List Value), us.length = (["lines", "horizon"] : List Str).length → bindArgs (PySem.W.fnOf "read_things" "read_things" (defArgs s_read_things) (defBody s_read_things) (defScope s_read_things) .none kV doc pm an cdv ct) ⟨us, []⟩ = pure ((["lines", "horizon"] : List Str).zip us) :=
  fun _ _ _ _ _ _ us hl => match us, hl with | [_, _], _ => rfl
theorem hb_lines_of : ∀ (kV doc pm : Value) (an : Option Addr) (cdv ct : Value) (us : List Value), us.length = (["text"] : List Str).length → bindArgs (PySem.W.fnOf "lines_of" "lines_of" (defArgs s_lines_of) (defBody s_lines_of) (defScope s_lines_of) .none kV doc pm an cdv ct) ⟨us, []⟩ = pure ((["text"] : List Str).zip us) :=
  fun _ _ _ _ _ _ us hl => match us, hl with | [_], _ => rfl
theorem hb_is_name : ∀ (kV doc pm : Value) (an : Option Addr) (cdv ct : Value) (us : List Value), us.length = (["word"] : List Str).length → bindArgs (PySem.W.fnOf "is_name" "is_name" (defArgs s_is_name) (defBody s_is_name) (defScope s_is_name) .none kV doc pm an cdv ct) ⟨us, []⟩ = pure ((["word"] : List Str).zip us) :=
  fun _ _ _ _ _ _ us hl => match us, hl with | [_], _ => rfl
theorem hb_is_number : ∀ (kV doc pm : Value) (an : Option Addr) (cdv ct : Value) (us : List Value), us.length = (["word"] : List Str).length → bindArgs (PySem.W.fnOf "is_number" "is_number" (defArgs s_is_number) (defBody s_is_number) (defScope s_is_number) .none kV doc pm an cdv ct) ⟨us, []⟩ = pure ((["word"] : List Str).zip us) :=
  fun _ _ _ _ _ _ us hl => match us, hl with | [_], _ => rfl
theorem hb_Line___init__ : ∀ (kV doc pm : Value) (an : Option Addr) (cdv ct : Value) (us : List Value), us.length = (["self", "number", "row"] : List Str).length → bindArgs (PySem.W.fnOf "__init__" "Line.__init__" (defArgs s_Line___init__) (defBody s_Line___init__) (defScope s_Line___init__) .none kV doc pm an cdv ct) ⟨us, []⟩ = pure ((["self", "number", "row"] : List Str).zip us) :=
  fun _ _ _ _ _ _ us hl => match us, hl with | [_, _, _], _ => rfl
theorem hb_Line_has_more : ∀ (kV doc pm : Value) (an : Option Addr) (cdv ct : Value) (us : List Value), us.length = (["self"] : List Str).length → bindArgs (PySem.W.fnOf "has_more" "Line.has_more" (defArgs s_Line_has_more) (defBody s_Line_has_more) (defScope s_Line_has_more) .none kV doc pm an cdv ct) ⟨us, []⟩ = pure ((["self"] : List Str).zip us) :=
  fun _ _ _ _ _ _ us hl => match us, hl with | [_], _ => rfl
theorem hb_Line_due : ∀ (kV doc pm : Value) (an : Option Addr) (cdv ct : Value) (us : List Value), us.length = (["self"] : List Str).length → bindArgs (PySem.W.fnOf "due" "Line.due" (defArgs s_Line_due) (defBody s_Line_due) (defScope s_Line_due) .none kV doc pm an cdv ct) ⟨us, []⟩ = pure ((["self"] : List Str).zip us) :=
  fun _ _ _ _ _ _ us hl => match us, hl with | [_], _ => rfl
theorem hb_Line_step : ∀ (kV doc pm : Value) (an : Option Addr) (cdv ct : Value) (us : List Value), us.length = (["self"] : List Str).length → bindArgs (PySem.W.fnOf "step" "Line.step" (defArgs s_Line_step) (defBody s_Line_step) (defScope s_Line_step) .none kV doc pm an cdv ct) ⟨us, []⟩ = pure ((["self"] : List Str).zip us) :=
  fun _ _ _ _ _ _ us hl => match us, hl with | [_], _ => rfl
theorem hb_Line_read_choice : ∀ (kV doc pm : Value) (an : Option Addr) (cdv ct : Value) (us : List Value), us.length = (["self", "choices"] : List Str).length → bindArgs (PySem.W.fnOf "read_choice" "Line.read_choice" (defArgs s_Line_read_choice) (defBody s_Line_read_choice) (defScope s_Line_read_choice) .none kV doc pm an cdv ct) ⟨us, []⟩ = pure ((["self", "choices"] : List Str).zip us) :=
  fun _ _ _ _ _ _ us hl => match us, hl with | [_, _], _ => rfl
theorem hb_Line_read_number : ∀ (kV doc pm : Value) (an : Option Addr) (cdv ct : Value) (us : List Value), us.length = (["self", "least", "most"] : List Str).length → bindArgs (PySem.W.fnOf "read_number" "Line.read_number" (defArgs s_Line_read_number) (defBody s_Line_read_number) (defScope s_Line_read_number) .none kV doc pm an cdv ct) ⟨us, []⟩ = pure ((["self", "least", "most"] : List Str).zip us) :=
  fun _ _ _ _ _ _ us hl => match us, hl with | [_, _, _], _ => rfl
theorem hb_Line_read_field : ∀ (kV doc pm : Value) (an : Option Addr) (cdv ct : Value) (us : List Value), us.length = (["self", "word", "least", "most"] : List Str).length → bindArgs (PySem.W.fnOf "read_field" "Line.read_field" (defArgs s_Line_read_field) (defBody s_Line_read_field) (defScope s_Line_read_field) .none kV doc pm an cdv ct) ⟨us, []⟩ = pure ((["self", "word", "least", "most"] : List Str).zip us) :=
  fun _ _ _ _ _ _ us hl => match us, hl with | [_, _, _, _], _ => rfl
theorem hb_Line_due_name : ∀ (kV doc pm : Value) (an : Option Addr) (cdv ct : Value) (us : List Value), us.length = (["self"] : List Str).length → bindArgs (PySem.W.fnOf "due_name" "Line.due_name" (defArgs s_Line_due_name) (defBody s_Line_due_name) (defScope s_Line_due_name) .none kV doc pm an cdv ct) ⟨us, []⟩ = pure ((["self"] : List Str).zip us) :=
  fun _ _ _ _ _ _ us hl => match us, hl with | [_], _ => rfl
theorem hb_Line_read_new_name : ∀ (kV doc pm : Value) (an : Option Addr) (cdv ct : Value) (us : List Value), us.length = (["self", "used"] : List Str).length → bindArgs (PySem.W.fnOf "read_new_name" "Line.read_new_name" (defArgs s_Line_read_new_name) (defBody s_Line_read_new_name) (defScope s_Line_read_new_name) .none kV doc pm an cdv ct) ⟨us, []⟩ = pure ((["self", "used"] : List Str).zip us) :=
  fun _ _ _ _ _ _ us hl => match us, hl with | [_, _], _ => rfl
theorem hb_Line_read_known_name : ∀ (T : Addr) (kV doc pm : Value) (an : Option Addr) (cdv ct : Value) (us its : List Value), us.length = 2 → its.length = 1 →
    ∃ k, bindArgs (PySem.W.fnOf "read_known_name" "Line.read_known_name" (defArgs s_Line_read_known_name) (defBody s_Line_read_known_name) (defScope s_Line_read_known_name) (.ref T) kV doc pm an cdv ct) ⟨us, []⟩ = seqItems? (.ref T) >>= k ∧ k (some its.toArray) = pure ((["self", "names", "least"] : List Str).zip (us ++ its.drop 0)) :=
  fun _ _ _ _ _ _ _ us its h1 h2 => match us, its, h1, h2 with | [_, _], [_], _, _ => ⟨_, rfl, rfl⟩
theorem hb_Line_finish : ∀ (kV doc pm : Value) (an : Option Addr) (cdv ct : Value) (us : List Value), us.length = (["self"] : List Str).length → bindArgs (PySem.W.fnOf "finish" "Line.finish" (defArgs s_Line_finish) (defBody s_Line_finish) (defScope s_Line_finish) .none kV doc pm an cdv ct) ⟨us, []⟩ = pure ((["self"] : List Str).zip us) :=
  fun _ _ _ _ _ _ us hl => match us, hl with | [_], _ => rfl
theorem hb_Satellite___init__ : ∀ (kV doc pm : Value) (an : Option Addr) (cdv ct : Value) (us : List Value), us.length = (["self", "name", "store", "battery", "start_level", "reserve", "charge", "settle", "light"] : List Str).length → bindArgs (PySem.W.fnOf "__init__" "Satellite.__init__" (defArgs s_Satellite___init__) (defBody s_Satellite___init__) (defScope s_Satellite___init__) .none kV doc pm an cdv ct) ⟨us, []⟩ = pure ((["self", "name", "store", "battery", "start_level", "reserve", "charge", "settle", "light"] : List Str).zip us) :=
  fun _ _ _ _ _ _ us hl => match us, hl with | [_, _, _, _, _, _, _, _, _], _ => rfl
theorem hb_Station___init__ : ∀ (kV doc pm : Value) (an : Option Addr) (cdv ct : Value) (us : List Value), us.length = (["self", "name", "antennas", "turn"] : List Str).length → bindArgs (PySem.W.fnOf "__init__" "Station.__init__" (defArgs s_Station___init__) (defBody s_Station___init__) (defScope s_Station___init__) .none kV doc pm an cdv ct) ⟨us, []⟩ = pure ((["self", "name", "antennas", "turn"] : List Str).zip us) :=
  fun _ _ _ _ _ _ us hl => match us, hl with | [_, _, _, _], _ => rfl
theorem hb_Recording___init__ : ∀ (kV doc pm : Value) (an : Option Addr) (cdv ct : Value) (us : List Value), us.length = (["self", "name", "satellite", "earliest", "latest", "length", "size", "energy", "worth", "rank", "deadline"] : List Str).length → bindArgs (PySem.W.fnOf "__init__" "Recording.__init__" (defArgs s_Recording___init__) (defBody s_Recording___init__) (defScope s_Recording___init__) .none kV doc pm an cdv ct) ⟨us, []⟩ = pure ((["self", "name", "satellite", "earliest", "latest", "length", "size", "energy", "worth", "rank", "deadline"] : List Str).zip us) :=
  fun _ _ _ _ _ _ us hl => match us, hl with | [_, _, _, _, _, _, _, _, _, _, _], _ => rfl
theorem hb_Pass___init__ : ∀ (kV doc pm : Value) (an : Option Addr) (cdv ct : Value) (us : List Value), us.length = (["self", "name", "satellite", "station", "span", "room", "energy", "fee"] : List Str).length → bindArgs (PySem.W.fnOf "__init__" "Pass.__init__" (defArgs s_Pass___init__) (defBody s_Pass___init__) (defScope s_Pass___init__) .none kV doc pm an cdv ct) ⟨us, []⟩ = pure ((["self", "name", "satellite", "station", "span", "room", "energy", "fee"] : List Str).zip us) :=
  fun _ _ _ _ _ _ us hl => match us, hl with | [_, _, _, _, _, _, _, _], _ => rfl
theorem hb_World___init__ : ∀ (kV doc pm : Value) (an : Option Addr) (cdv ct : Value) (us : List Value), us.length = (["self", "text", "horizon", "things"] : List Str).length → bindArgs (PySem.W.fnOf "__init__" "World.__init__" (defArgs s_World___init__) (defBody s_World___init__) (defScope s_World___init__) .none kV doc pm an cdv ct) ⟨us, []⟩ = pure ((["self", "text", "horizon", "things"] : List Str).zip us) :=
  fun _ _ _ _ _ _ us hl => match us, hl with | [_, _, _, _], _ => rfl
theorem hb_World_parse : ∀ (kV doc pm : Value) (an : Option Addr) (cdv ct : Value) (us : List Value), us.length = (["text"] : List Str).length → bindArgs (PySem.W.fnOf "parse" "World.parse" (defArgs s_World_parse) (defBody s_World_parse) (defScope s_World_parse) .none kV doc pm an cdv ct) ⟨us, []⟩ = pure ((["text"] : List Str).zip us) :=
  fun _ _ _ _ _ _ us hl => match us, hl with | [_], _ => rfl
end DP
namespace DP
open PySem PySem.Spec PyProof.Rows L2
abbrev s__law_cell : Stmt := topS 48
theorem sc__law_cell : FnScope ["_law_script", "_law_k"] ["_law_script", "_law_k"] (defScope s__law_cell) := ⟨rfl, rfl, rfl, by decide +kernel, rfl, by decide +kernel, by decide +kernel⟩
abbrev s__law_draws : Stmt := topS 49
theorem sc__law_draws : FnScope ["_law_cell_here", "_law_count", "_law_number", "_law_great", "_law_found", "_law_k", "_law_mixed"] ["_law_cell_here", "_law_count"] (defScope s__law_draws) := ⟨rfl, rfl, rfl, by decide +kernel, rfl, by decide +kernel, by decide +kernel⟩
abbrev s__law_stream : Stmt := topS 50
theorem sc__law_stream : FnScope ["_law_script", "_law_first", "_law_count", "_law_found", "_law_k"] ["_law_script", "_law_first", "_law_count"] (defScope s__law_stream) := ⟨rfl, rfl, rfl, by decide +kernel, rfl, by decide +kernel, by decide +kernel⟩
abbrev s__law_next : Stmt := topS 51
theorem sc__law_next : FnScope ["_law_stream_here", "_law_many", "_law_digits", "_law_place", "_law_value"] ["_law_stream_here", "_law_many"] (defScope s__law_next) := ⟨rfl, rfl, rfl, by decide +kernel, rfl, by decide +kernel, by decide +kernel⟩
section
variable {P : Program} {w : World} {K : PySem.W.Frag} {mg : Str → Option Value} {base : Heap}
/-- some int -/
def spCell (K : PySem.W.Frag) : Sp := fun vs H Q _ => ∃ (a : Addr) (ns : List Int) (k : Int), vs = [.ref a, .int k] ∧ SqL K H a (ns.map V.int) ∧ 0 ≤ k ∧ ∀ v : Int, Q (.int v) H
theorem d_cell (B : Bt mg) (A : At K mg "_law_cell" s__law_cell ["_law_script", "_law_k"]) : DefOk P w K mg base CX0 1 "_law_cell" ["_law_script", "_law_k"] (DP.spCell K) := by
  refine A.ok sc__law_cell (fun vs H Q E h => ?_) (fun f cdv A outer s H vs Q E hr h => ?_)
  · obtain ⟨a, ns, k, rfl, _⟩ := h
    rfl
  obtain ⟨a, ns, k, rfl, hS, h0, q⟩ := h
  refine ⟨_, pss_cons (ps_if (pt_cmpR op_lt (pv 1) (pe_callB (call_len_seq) (by rfl) B.len (by decide +kernel) (pa_cons (pv 0) pa_nil)) (nomark _))
      (pss_one (ps_ret (pe_callTy (call_int1) (by rfl) B.int (by decide +kernel) (pa_cons (pe_ix ix_list (pv 0) (pv 1) (fun _ _ => rfl)) pa_nil))))
      (pss_nil))
  (pss_one (ps_ret pe_int))
    , ?_⟩
  refine ⟨_, rfl, _, rfl, a, _, rfl, .inl hS, _, _, rfl, rfl, _, rfl, ?_⟩
  refine ite2 (fun c => ?_) (fun c => ?_)
  · have c' : k < (((ns.map V.int).length : Nat) : Int) := of_decide_eq_true c
    rw [List.length_map] at c'
    have hk : k.toNat < ns.length := by omega
    have ek : k = ((k.toNat : Nat) : Int) := by omega
    have g : (ns.map V.int)[k.toNat]? = some (.int ns[k.toNat]) := by rw [List.getElem?_map, List.getElem?_eq_getElem hk] <;> rfl
    have g2 : atI (ns.map V.int) k = some (.int ns[k.toNat]) := by
      have := atI_nat g
      rw [← ek] at this
      exact this
    exact ⟨_, rfl, _, rfl, a, _, _, _, rfl, rfl, hS, g2, .inl ⟨_, rfl, q _⟩⟩
  · exact q 0
/-- a new list of twelve ints -/
def spDraws : Sp := fun vs H Q _ => ∃ c : Int, vs = [.int c, .int 12] ∧ ∀ (p : Addr) (ds : List Int) (H' : Hp), Same H H' → H p = none → ds.length = 12 → H' p = some (.lst (ds.map V.int)) → Q (.ref p) H'
theorem d_draws (B : Bt mg) (A : At K mg "_law_draws" s__law_draws ["_law_cell_here", "_law_count"]) : DefOk P w K mg base CX0 1 "_law_draws" ["_law_cell_here", "_law_count"] spDraws := by
  refine A.ok sc__law_draws (fun vs H Q E h => ?_) (fun f cdv A outer s H vs Q E hr h => ?_)
  · obtain ⟨c, rfl, _⟩ := h
    rfl
  obtain ⟨c, rfl, q⟩ := h
  refine ⟨_, pss_cons (ps_set (i := 2) sc__law_draws.nd rfl (Or.inl rfl) (pe_callB (call_abs) (by rfl) B.abs (by decide +kernel) (pa_cons (pe_callTy (call_int1) (by rfl) B.int (by decide +kernel) (pa_cons (pv 0) pa_nil)) pa_nil)))
  (pss_cons (ps_set (i := 3) sc__law_draws.nd rfl (Or.inl rfl) (pe_cmpR op_ge (pv 2) (pe_op op_pow pe_int pe_int) (nomark _)))
  (pss_cons (ps_set (i := 4) sc__law_draws.nd rfl (Or.inl rfl) (pe_lst pa_nil))
  (pss_cons (ps_for PassesOwn.never rfl (pi_range1 (by rfl) B.range (pa_cons pe_int pa_nil)) (pg_name (i := 5) sc__law_draws.nd rfl (Or.inl rfl))
      (pss_one (ps_if (PW.pt (pw_and (pt_cmpR op_lt (pv 5) (pv 1) (nomark _)) (pw_and1 (pt_val (pv 3)))))
          (pss_cons (ps_expr (pe_bm PySem.F.plainAttrs_list PySem.F.slot_list_append PySem.F.type_list_append mt_append (pv 4) (pa_cons (pe_op op_mod (pv 2) pe_int) pa_nil)))
          (pss_one (ps_set (i := 2) sc__law_draws.nd rfl (Or.inl rfl) (pe_op op_fdiv (pv 2) pe_int))))
          (pss_one (ps_if (pt_cmpR op_lt (pv 5) (pv 1) (nomark _))
              (pss_cons (ps_set (i := 6) sc__law_draws.nd rfl (Or.inl rfl) (pe_op op_mod (pe_op op_add (pe_op op_add (pe_op op_mul (pe_callTy (call_int1) (by rfl) B.int (by decide +kernel) (pa_cons (pv 2) pa_nil)) pe_int) (pe_op op_mul (pv 5) pe_int)) pe_int) pe_int))
              (pss_cons (ps_set (i := 6) sc__law_draws.nd rfl (Or.inl rfl) (pe_op op_mod (pe_op op_add (pe_op op_add (pe_op op_mul (pe_callTy (call_int1) (by rfl) B.int (by decide +kernel) (pa_cons (pv 6) pa_nil)) (pe_callTy (call_int1) (by rfl) B.int (by decide +kernel) (pa_cons (pv 6) pa_nil))) (pe_op op_mul (pv 5) pe_int)) pe_int) pe_int))
              (pss_one (ps_expr (pe_bm PySem.F.plainAttrs_list PySem.F.slot_list_append PySem.F.type_list_append mt_append (pv 4) (pa_cons (pe_op op_mod (pe_callTy (call_int1) (by rfl) B.int (by decide +kernel) (pa_cons (pv 6) pa_nil)) pe_int) pa_nil))))))
              (pss_nil))))))
  (pss_one (ps_ret (pv 4))))))
    , ?_⟩
  refine ⟨_, rfl, .inl ⟨_, rfl, c, rfl, ?_⟩⟩
  generalize hn0 : (if c < 0 then -c else c) = n0
  have p0 : 0 ≤ n0 := by
    rw [← hn0]
    split <;> omega
  refine ⟨_, rfl, _, _, rfl, rfl, ⟨by decide, by decide, by decide⟩, _, _, rfl, rfl, Nat.zero_le _, fun p hp => ?_⟩
  obtain ⟨g, hg⟩ : ∃ g, decide ((10 : Int) ^ (18 : Int).toNat ≤ n0) = g := ⟨_, rfl⟩
  have hsmall : g = false → n0 < 10 ^ 18 := fun e => by
    rw [e] at hg
    have := of_decide_eq_false hg
    have e2 : (10 : Int) ^ (18 : Int).toNat = 10 ^ 18 := rfl
    rw [e2] at this
    omega
  refine ⟨60, rfl, by decide, by decide, for_range (n := 60) (fun i σ H' => ∃ (num : Int) (ds : List Int) (y5 y6 : Option V), σ = [some (.int c), some (.int 12), some (.int num), some (.bl g), some (.ref p), y5, y6] ∧ 0 ≤ num ∧ (g = false → num < 10 ^ 18) ∧
    ds.length = min i 12 ∧ H' p = some (.lst (ds.map V.int)) ∧ Same H H') ⟨n0, [], none, none, by rw [← hg]; rfl, p0, hsmall, rfl, upd_same, same_new hp _⟩ (fun i σ H1 hi hI => ?_) (fun σ H1 hI => ?_)⟩
  · obtain ⟨num, ds, y5, y6, rfl, pn, sn, hl, hpp, hs⟩ := hI
    have room : (ds.map V.int).length < sizeLine := by
      rw [List.length_map, hl]
      exact small1000 (by omega)
    have grow : ∀ v : Int, i < 12 → (ds ++ [v]).length = min (i + 1) 12 := fun v h => by
      rw [List.length_append, hl, List.length_singleton]
      omega
    have put : ∀ v : Int, (upd H1 p (.lst (ds.map V.int ++ [.int v]))) p = some (.lst ((ds ++ [v]).map V.int)) := fun v => by
      rw [upd_same, List.map_append] <;> rfl
    refine ⟨_, rfl, _, rfl, _, _, rfl, rfl, _, rfl, ?_⟩
    refine ite2 (fun c1 => ?_) (fun c1 => ?_)
    · have c1' : (0 : Int) + (i : Nat) < 12 := of_decide_eq_true c1
      refine ⟨_, rfl, g, rfl, ?_⟩
      cases g with
      | true =>
        refine iteT ?_
        refine ⟨_, rfl, .inl ⟨rfl, _, SqL.of hpp⟩, _, rfl, _, _, rfl, rfl, (by show (0 : Int) < 60; decide), _, _, _, rfl, rfl, hpp, room, ?_⟩
        refine ⟨_, rfl, _, _, rfl, rfl, ⟨by decide, by decide⟩, ?_⟩
        exact ⟨num / 60, ds ++ [num % 60], _, _, rfl, Int.ediv_nonneg pn (by decide), fun z => Bool.noConfusion z, grow _ (by omega), put _, same_at hp hs _⟩
      | false =>
        have sn' := sn rfl
        refine iteF ?_
        refine ⟨_, rfl, _, rfl, _, _, rfl, rfl, _, rfl, iteT' (decide_eq_true c1') ?_⟩
        refine ⟨_, rfl, .inl ⟨_, rfl, _, _, rfl, rfl, .inr ⟨by decide, by decide⟩, _, rfl, _, _, rfl, rfl, .inr ⟨by decide, by decide⟩, _, _, rfl, rfl, _, _, rfl, rfl, _, _, rfl, rfl, (by show (0 : Int) < 2147483647; decide), ?_⟩⟩
        generalize hm : ((num * 48271 + (0 + (i : Nat)) * 69621 + 11) % 2147483647 : Int) = m1
        have b1 : 0 ≤ m1 := by rw [← hm]; exact Int.emod_nonneg _ (by decide)
        have b2 : m1 < 2147483647 := by rw [← hm]; exact Int.emod_lt_of_pos _ (by decide)
        refine ⟨_, rfl, .inl ⟨_, rfl, _, rfl, .inl ⟨_, rfl, _, _, rfl, rfl, .inl ⟨by omega, by omega⟩, _, rfl, _, _, rfl, rfl, .inr ⟨by decide, by decide⟩, _, _, rfl, rfl, _, _, rfl, rfl, _, _, rfl, rfl, (by show (0 : Int) < 998244353; decide), ?_⟩⟩⟩
        refine ⟨_, rfl, .inl ⟨rfl, _, SqL.of hpp⟩, _, rfl, .inl ⟨_, rfl, _, _, rfl, rfl, (by show (0 : Int) < 60; decide), _, _, _, rfl, rfl, hpp, room, ?_⟩⟩
        exact ⟨num, _, _, _, rfl, pn, sn, grow _ (by omega), put _, same_at hp hs _⟩
    · have c1' : ¬ (0 : Int) + (i : Nat) < 12 := fun z => c1 (decide_eq_true z)
      refine ⟨_, rfl, _, rfl, _, _, rfl, rfl, _, rfl, iteF' (decide_eq_false c1') ?_⟩
      exact ⟨num, ds, _, _, rfl, pn, sn, by rw [hl]; omega, hpp, hs⟩
  · obtain ⟨num, ds, y5, y6, rfl, pn, sn, hl, hpp, hs⟩ := hI
    exact ⟨_, rfl, q p ds H1 hs hp hl hpp⟩
theorem mod_place' {i : Int} {n : Nat} (h : 0 < n) : (i % (n : Int)).toNat < n ∧ (((i % (n : Int)).toNat : Nat) : Int) = i % (n : Int) := by
  have h1 : 0 ≤ i % (n : Int) := Int.emod_nonneg i (by omega)
  have h2 : i % (n : Int) < (n : Int) := Int.emod_lt_of_pos i (by omega)
  have h3 : (((i % (n : Int)).toNat : Nat) : Int) = i % (n : Int) := Int.toNat_of_nonneg h1
  refine ⟨?_, h3⟩
  omega
/-- a stream: its digits, its place -/
def Strm (H : Hp) (st : Addr) : Prop := ∃ (d p : Addr) (ds : List Int), H st = some (.lst [.ref d, .ref p]) ∧ H d = some (.lst (ds.map V.int)) ∧ 0 < ds.length ∧ H p = some (plO p)
theorem Strm.same {H H' : Hp} {st : Addr} (h : Strm H st) (s : Same H H') : Strm H' st := by
  obtain ⟨d, p, ds, h1, h2, h3, h4⟩ := h
  exact ⟨d, p, ds, s _ _ h1, s _ _ h2, h3, s _ _ h4⟩
def spStream0 (K : PySem.W.Frag) : Sp := fun vs H Q _ => ∃ (a : Addr) (ns : List Int) (first count : Int), vs = [.ref a, .int first, .int count] ∧ SqL K H a (ns.map V.int) ∧ 0 ≤ first ∧ 0 < count ∧ count ≤ 60 ∧
  ∀ (st d p : Addr) (ds : List Int) (H' : Hp), Same H H' → H st = none → H d = none → H p = none → st ≠ p → d ≠ p → H' st = some (.lst [.ref d, .ref p]) → H' d = some (.lst (ds.map V.int)) → 0 < ds.length → H' p = some (.lst [.int 0]) → Q (.ref st) H'
theorem d_stream0 (B : Bt mg) (D_law_cell : DefOk P w K mg base CX0 1 "_law_cell" ["_law_script", "_law_k"] (DP.spCell K)) (D_law_draws : DefOk P w K mg base CX0 1 "_law_draws" ["_law_cell_here", "_law_count"] spDraws)
    (A : At K mg "_law_stream" s__law_stream ["_law_script", "_law_first", "_law_count"]) : DefOk P w K mg base CX0 2 "_law_stream" ["_law_script", "_law_first", "_law_count"] (spStream0 K) := by
  refine A.ok sc__law_stream (fun vs H Q E h => ?_) (fun f cdv A outer s H vs Q E hr h => ?_)
  · obtain ⟨a, ns, first, count, rfl, _⟩ := h
    rfl
  obtain ⟨a, ns, first, count, rfl, hS, h0, h1, h2, q⟩ := h
  refine ⟨_, pss_cons (ps_set (i := 3) sc__law_stream.nd rfl (Or.inl rfl) (pe_lst pa_nil))
  (pss_cons (ps_for PassesOwn.never rfl (pi_range1 (by rfl) B.range (pa_cons (pv 2) pa_nil)) (pg_name (i := 4) sc__law_stream.nd rfl (Or.inl rfl))
      (pss_one (ps_expr (pe_bm PySem.F.plainAttrs_list PySem.F.slot_list_extend PySem.F.type_list_extend mt_extend (pv 3) (pa_cons (pe_f D_law_draws (hr.mono (by omega)) pass0 (pa_cons (pe_f D_law_cell (hr.mono (by omega)) pass0 (pa_cons (pv 0) (pa_cons (pe_op op_add (pv 1) (pv 4)) pa_nil))) (pa_cons pe_int pa_nil))) pa_nil)))))
  (pss_one (ps_ret (pe_lst (pa_cons (pv 3) (pa_cons (pe_lst (pa_cons pe_int pa_nil)) pa_nil))))))
    , ?_⟩
  refine ⟨Nat.zero_le _, fun p hp => ?_⟩
  refine ⟨_, rfl, count, rfl, by omega, by omega, for_range (n := count.toNat) (fun i σ H' => ∃ (ds : List Int) (y4 : Option V), σ = [some (.ref a), some (.int first), some (.int count), some (.ref p), y4] ∧ ds.length = 12 * i ∧ H' p = some (.lst (ds.map V.int)) ∧ Same H H')
    ⟨[], none, rfl, rfl, upd_same, same_new hp _⟩ (fun i σ H1 hi hI => ?_) (fun σ H1 hI => ?_)⟩
  · obtain ⟨ds, y4, rfl, hl, hpp, hs⟩ := hI
    refine ⟨_, rfl, .inl ⟨rfl, _, SqL.of hpp⟩, _, rfl, _, rfl, _, rfl, _, _, rfl, rfl, a, ns, first + (0 + (i : Int)), rfl, hs.seq hS, by omega, fun v => ?_⟩
    refine ⟨v, rfl, fun b es H2 s2 nb hl2 hb => ?_⟩
    refine ⟨p, b, _, _, rfl, rfl, s2 _ _ hpp, hb, ?_, ?_⟩
    · rw [List.length_map, List.length_map, hl, hl2]
      exact small (by omega)
    · refine ⟨ds ++ es, _, rfl, by rw [List.length_append, hl, hl2]; omega, by rw [upd_same, List.map_append], same_at hp (hs.trans s2) _⟩
  · obtain ⟨ds, y4, rfl, hl, hpp, hs⟩ := hI
    refine ⟨_, rfl, Nat.le_trans (by decide : 1 ≤ 1000) (Nat.le_of_lt (small1000 (Nat.le_refl _))), fun pl npl => ?_⟩
    have e1 : p ≠ pl := ne_of_none hpp npl
    refine ⟨Nat.le_trans (by decide : 2 ≤ 1000) (Nat.le_of_lt (small1000 (Nat.le_refl _))), fun st nst => ?_⟩
    have nst0 := nst
    have e2 : pl ≠ st := fun z => by
      rw [← z, upd_same] at nst
      cases nst
    rw [upd_ne e2.symm] at nst
    have e3 : p ≠ st := ne_of_none hpp nst
    refine q st p pl ds _ (same_at (hs.free nst) (same_at (hs.free npl) hs _) _) (hs.free nst) hp (hs.free npl) e2.symm e1 upd_same ?_ (by rw [hl]; omega) ?_
    · rw [upd_ne e3, upd_ne e1]
      exact hpp
    · rw [upd_ne e2, upd_same]
def spStream (K : PySem.W.Frag) : Sp := fun vs H Q _ => ∃ (a : Addr) (ns : List Int) (first count : Int), vs = [.ref a, .int first, .int count] ∧ SqL K H a (ns.map V.int) ∧ 0 ≤ first ∧ 0 < count ∧ count ≤ 60 ∧
  ∀ (st : Addr) (H' : Hp), Same H H' → H st = none → Strm H' st → Q (.ref st) H'
theorem d_stream (D : DefOk P w K mg base CX0 2 "_law_stream" ["_law_script", "_law_first", "_law_count"] (spStream0 K)) : DefOk P w K mg base CX0 2 "_law_stream" ["_law_script", "_law_first", "_law_count"] (spStream K) := by
  refine D.hide_out (fun vs H Q E h => ?_) (fun vs H Q E h => ?_)
  · obtain ⟨a, ns, first, count, rfl, _⟩ := h
    rfl
  obtain ⟨a, ns, first, count, rfl, hS, h0, h1, h2, q⟩ := h
  refine ⟨a, ns, first, count, rfl, hS, h0, h1, h2, fun st d p ds H' s nst nd np e1 e2 g1 g2 g3 g4 => ⟨p, 0, np, g4, q st _ (same_at np s _) nst ⟨d, p, ds, ?_, ?_, g3, upd_same⟩⟩⟩
  · rw [upd_ne e1]; exact g1
  · rw [upd_ne e2]; exact g2
def spNext0 : Sp := fun vs H Q _ => ∃ (st d p : Addr) (ds : List Int) (n many : Int), vs = [.ref st, .int many] ∧ 0 < many ∧ H st = some (.lst [.ref d, .ref p]) ∧ H d = some (.lst (ds.map V.int)) ∧ 0 < ds.length ∧ H p = some (.lst [.int n]) ∧
  ∀ v m : Int, 0 ≤ v → v < many → Q (.int v) (upd H p (.lst [.int m]))
theorem d_next0 (B : Bt mg) (A : At K mg "_law_next" s__law_next ["_law_stream_here", "_law_many"]) : DefOk P w K mg base CX0 1 "_law_next" ["_law_stream_here", "_law_many"] spNext0 := by
  refine A.ok sc__law_next (fun vs H Q E h => ?_) (fun f cdv A outer s H vs Q E hr h => ?_)
  · obtain ⟨a, d, p, ds, n, many, rfl, _⟩ := h
    rfl
  obtain ⟨st, d, p, ds, n, many, rfl, hm, h1, h2, h3, h4, q⟩ := h
  refine ⟨_, pss_cons (ps_set (i := 2) sc__law_next.nd rfl (Or.inl rfl) (pe_ix ix_list (pv 0) pe_int (fun _ _ => rfl)))
  (pss_cons (ps_set (i := 3) sc__law_next.nd rfl (Or.inl rfl) (pe_ix ix_list (pv 0) pe_int (fun _ _ => rfl)))
  (pss_cons (ps_set (i := 4) sc__law_next.nd rfl (Or.inl rfl) (pe_op op_mod (pe_callTy (call_int1) (by rfl) B.int (by decide +kernel) (pa_cons (pe_ix ix_list (pv 2) (pe_op op_mod (pe_callTy (call_int1) (by rfl) B.int (by decide +kernel) (pa_cons (pe_ix ix_list (pv 3) pe_int (fun _ _ => rfl)) pa_nil)) (pe_callB (call_len_seq) (by rfl) B.len (by decide +kernel) (pa_cons (pv 2) pa_nil))) (fun _ _ => rfl)) pa_nil)) (pv 1)))
  (pss_cons (ps_asg (pe_op op_add (pe_ix ix_list (pv 3) pe_int (fun _ _ => rfl)) pe_int) (pg_sub (pv 3) pe_int set_list))
  (pss_one (ps_ret (pv 4))))))
    , ?_⟩
  refine ⟨_, rfl, st, _, 0, .ref d, rfl, rfl, SqL.of h1, rfl, ?_⟩
  refine ⟨_, rfl, st, _, 1, .ref p, rfl, rfl, SqL.of h1, rfl, ?_⟩
  have hp := (mod_place' (i := n) h3)
  have g2 : atI (ds.map V.int) (n % (((ds.map V.int).length : Nat) : Int)) = some (.int ds[(n % (ds.length : Int)).toNat]) := by
    have g : (ds.map V.int)[(n % (ds.length : Int)).toNat]? = some (.int ds[(n % (ds.length : Int)).toNat]) := by rw [List.getElem?_map, List.getElem?_eq_getElem hp.1] <;> rfl
    have g3 := atI_nat g
    rw [hp.2] at g3
    rw [List.length_map]
    exact g3
  refine ⟨_, rfl, _, rfl, p, _, 0, .int n, rfl, rfl, SqL.of h4, rfl, .inl ⟨_, rfl, _, rfl, d, _, rfl, .inl (SqL.of h2), _, _, rfl, rfl, (by rw [List.length_map]; omega), ?_⟩⟩
  refine ⟨d, _, _, _, rfl, rfl, SqL.of h2, g2, .inl ⟨_, rfl, _, rfl, _, _, rfl, rfl, hm, ?_⟩⟩
  refine ⟨_, rfl, p, _, 0, .int n, rfl, rfl, SqL.of h4, rfl, _, _, rfl, rfl, _, rfl, p, _, 0, 0, rfl, rfl, h4, rfl, ?_⟩
  exact ⟨_, rfl, q _ _ (Int.emod_nonneg _ (by omega)) (Int.emod_lt_of_pos _ hm)⟩
/-- some int below many; nothing is seen to change -/
def spNext : Sp := fun vs H Q _ => ∃ (st : Addr) (many : Int), vs = [.ref st, .int many] ∧ 0 < many ∧ Strm H st ∧ ∀ v : Int, 0 ≤ v → v < many → Q (.int v) H
theorem d_next (D : DefOk P w K mg base CX0 1 "_law_next" ["_law_stream_here", "_law_many"] spNext0) : DefOk P w K mg base CX0 1 "_law_next" ["_law_stream_here", "_law_many"] spNext := by
  refine D.hide_in (fun vs H Q E h => ?_) (fun vs H Q E h => ?_)
  · obtain ⟨st, many, rfl, _⟩ := h
    rfl
  obtain ⟨st, many, rfl, hm, ⟨d, p, ds, h1, h2, h3, h4⟩, q⟩ := h
  have e1 : st ≠ p := ne_of h1 h4 (fun z => nomatch z)
  have e2 : d ≠ p := ne_of h2 h4 (fun z => nomatch z)
  exact ⟨p, h4, fun n => ⟨st, d, p, ds, n, many, rfl, hm, by rw [upd_ne e1]; exact h1, by rw [upd_ne e2]; exact h2, h3, upd_same, fun v m v0 v1 => ⟨⟨m, upd_upd⟩, q v v0 v1⟩⟩⟩
end
end DP
namespace DP
open PySem PySem.Spec PyProof.Rows L2
abbrev s__law_word : Stmt := topS 52
theorem sc__law_word : FnScope ["_law_stream_here", "_law_index", "_law_letters", "_law_size", "_law_text", "_law_place", "_law_word_here", "_law_k"] ["_law_stream_here", "_law_index"] (defScope s__law_word) := ⟨rfl, rfl, rfl, by decide +kernel, rfl, by decide +kernel, by decide +kernel⟩
def lo36 : Str := "abcdefghijklmnopqrstuvwxyz0123456789"
def isLo (c : Nat) : Bool := (decide (97 ≤ c) && decide (c ≤ 122)) || isD c
def isUp (c : Nat) : Bool := decide (65 ≤ c) && decide (c ≤ 90)
theorem isLo_notUp {c : Nat} (h : isLo c = true) : isUp c = false := by
  unfold isLo isD at h
  unfold isUp
  simp only [Bool.or_eq_true, Bool.and_eq_true, decide_eq_true_eq] at h
  simp only [Bool.and_eq_false_iff, decide_eq_false_iff_not]
  omega
theorem isLo_sign {c : Nat} (h : isLo c = true) : (isL c || isD c) = true := by
  unfold isLo at h
  unfold isL
  simp only [Bool.or_eq_true, Bool.and_eq_true, decide_eq_true_eq] at h ⊢
  rcases h with h | h
  · exact .inl (.inr h)
  · exact .inr h
/-- the word of the i-th thing: its one capital tells i -/
structure WordAt (i : Nat) (u : Str) : Prop where
  ok : NameOk u
  cap : (tl u).filter isUp = [65 + i]
theorem WordAt.inj {i j : Nat} {u : Str} (h : WordAt i u) (k : WordAt j u) : i = j := by
  have e := h.cap.symm.trans k.cap
  have := (List.cons.inj e).1
  omega
theorem cutS_mem {z : Str} {a b : Option Int} {c : Nat} (h : c ∈ tl (cutS z a b)) : c ∈ tl z := List.mem_of_mem_drop (List.mem_of_mem_take h)
theorem filter_none {l : List Nat} (h : ∀ c ∈ l, isLo c = true) : l.filter isUp = [] := List.filter_eq_nil_iff.mpr fun c hc => by rw [isLo_notUp (h c hc)]; exact Bool.false_ne_true
theorem lo36_at {v : Int} (h0 : 0 ≤ v) (h1 : v < 36) : ∃ c, atI lo36.cps.toList v = some c ∧ isLo c = true := by
  have all : ∀ j, j < 36 → ∃ c, lo36.cps.toList[j]? = some c ∧ isLo c = true := by
    intro j hj
    have hl : lo36.cps.toList.length = 36 := by decide +kernel
    refine ⟨lo36.cps.toList[j]'(by omega), List.getElem?_eq_getElem _, ?_⟩
    have al : ∀ c ∈ lo36.cps.toList, isLo c = true := by decide +kernel
    exact al _ (List.getElem_mem _)
  obtain ⟨c, h2, h3⟩ := all v.toNat (by omega)
  refine ⟨c, ?_, h3⟩
  have := atI_nat h2
  rw [show ((v.toNat : Nat) : Int) = v by omega] at this
  exact this
theorem cap_at {i : Nat} (h : i < 10) : atI ("ABCDEFGHIJ" : Str).cps.toList (i : Int) = some (65 + i) := by
  have all : ∀ j, j < 10 → ("ABCDEFGHIJ" : Str).cps.toList[j]? = some (65 + j) := by decide +kernel
  exact atI_nat (all i h)
theorem tl_str1 {c : Nat} : tl (⟨#[c]⟩ : Str) = [c] := rfl
theorem tl_app (x y : Str) : tl (x ++ y) = tl x ++ tl y := TL.tl_append x y
theorem join_ones : ∀ cs : List Nat, tl (Txt.join (Str.ofString "") (cs.map fun c => (⟨#[c]⟩ : Str))) = cs := fun cs => by
  rw [TL.join_eq]
  show TL.tl (Str.join (Str.ofString "") (cs.map fun c => (⟨#[c]⟩ : Str))) = cs
  rw [TL.tl_join, List.map_map]
  have e : TL.tl (Str.ofString "") = [] := by decide +kernel
  rw [e]
  induction cs with
  | nil => rfl
  | cons a r ih =>
    cases r with
    | nil => rfl
    | cons b t =>
      show [a] ++ ([] ++ TL.joinL [] ((b :: t).map _)) = a :: b :: t
      rw [List.nil_append, ih]
      rfl
/-- the word's parts put together -/
theorem word_ok {i : Nat} {pre suf : Str} {z : Str} (hi : i < 10) (hp : ∀ c ∈ tl pre, isLo c = true) (hs : ∀ c ∈ tl suf, isLo c = true) (lp : (tl pre).length ≤ 4) (ls : (tl suf).length ≤ 4) (hz : tl z = tl pre ++ (65 + i) :: tl suf) :
    (∃ c r, tl z = c :: r ∧ (isD c = true ∨ isL c = true)) ∧ (∀ c r, tl z = c :: r → isD c = true → WordAt i ((Str.ofString "v" : Str) ++ z)) ∧ (∀ c r, tl z = c :: r → isD c = false → WordAt i z) := by
  have sg : ∀ c ∈ tl z, (isL c || isD c) = true := fun c hc => by
    rw [hz] at hc
    rcases List.mem_append.mp hc with hc | hc
    · exact isLo_sign (hp c hc)
    · rcases List.mem_cons.mp hc with rfl | hc
      · unfold isL
        simp only [Bool.or_eq_true, Bool.and_eq_true, decide_eq_true_eq]
        omega
      · exact isLo_sign (hs c hc)
  have cp : (tl z).filter isUp = [65 + i] := by
    rw [hz, List.filter_append, filter_none hp, List.nil_append, List.filter_cons, filter_none hs, if_pos]
    unfold isUp
    simp only [Bool.and_eq_true, decide_eq_true_eq]
    omega
  have ln : (tl z).length ≤ 9 := by
    rw [hz, List.length_append, List.length_cons]
    omega
  have ev : tl (Str.ofString "v") = [118] := by decide +kernel
  refine ⟨?_, fun c r e hd => ⟨⟨118, c :: r, by rw [tl_app, ev, e]; rfl, by decide, fun x hx => sg x (by rw [e]; exact hx), by rw [← e]; omega⟩, ?_⟩, fun c r e hd => ⟨⟨c, r, e, ?_, fun x hx => sg x (by rw [e]; exact List.mem_cons_of_mem _ hx), ?_⟩, cp⟩⟩
  · cases q : tl z with
    | nil =>
      rw [hz] at q
      exact absurd q (by simp)
    | cons c r =>
      refine ⟨c, r, rfl, ?_⟩
      have := sg c (by rw [q]; exact List.mem_cons_self)
      rcases Bool.or_eq_true _ _ ▸ this with h | h
      · exact .inr h
      · exact .inl h
  · rw [tl_app, ev, List.filter_append, cp]
    rfl
  · have := sg c (by rw [e]; exact List.mem_cons_self)
    rw [hd, Bool.or_false] at this
    exact this
  · have := congrArg List.length e
    rw [List.length_cons] at this
    omega
end DP
namespace DP
open PySem PySem.Spec PyProof.Rows L2
abbrev s__law_is_integer : Stmt := topS 53
theorem sc__law_is_integer : FnScope ["_law_actual"] ["_law_actual"] (defScope s__law_is_integer) := ⟨rfl, rfl, rfl, by decide +kernel, rfl, by decide +kernel, by decide +kernel⟩
abbrev s__law_same : Stmt := topS 54
theorem sc__law_same : FnScope ["_law_actual", "_law_expected", "_law_k"] ["_law_actual", "_law_expected"] (defScope s__law_same) := ⟨rfl, rfl, rfl, by decide +kernel, rfl, by decide +kernel, by decide +kernel⟩
/-- data of at most n layers, each of at most a thousand items -/
def Fit : Nat → PyData → Prop
  | 0, _ => False
  | _ + 1, .none => True
  | _ + 1, .bool _ => True
  | _ + 1, .int _ => True
  | _ + 1, .str _ => True
  | n + 1, .list ds => ds.length ≤ 1000 ∧ ∀ d ∈ ds, Fit n d
  | n + 1, .tuple ds => ds.length ≤ 1000 ∧ ∀ d ∈ ds, Fit n d
  | _ + 1, .dict _ => False
theorem dpAll_len {K : PySem.W.Frag} {H : Hp} : ∀ {xs : List V} {ds : List PyData}, DpAll K H xs ds → xs.length = ds.length
  | _, _, .nil => rfl
  | _, _, .cons _ t => by rw [List.length_cons, List.length_cons, dpAll_len t]
theorem dpAll_at {K : PySem.W.Frag} {H : Hp} : ∀ {xs : List V} {ds : List PyData} (i : Nat), DpAll K H xs ds → i < ds.length → ∃ x d, xs[i]? = some x ∧ ds[i]? = some d ∧ Dp K H x d
  | _, _, _, .nil, h => absurd h (Nat.not_lt_zero _)
  | _, _, 0, .cons (v := v) (d := d) a _, _ => ⟨v, d, rfl, rfl, a⟩
  | _, _, i + 1, .cons _ t, h => by
    obtain ⟨x, d, h1, h2, h3⟩ := dpAll_at i t (by rw [List.length_cons] at h; omega)
    exact ⟨x, d, by rw [List.getElem?_cons_succ]; exact h1, by rw [List.getElem?_cons_succ]; exact h2, h3⟩
theorem tyx_list {K : PySem.W.Frag} {H : Hp} {a : Addr} {xs : List V} (h : SqL K H a xs) : TyX K H (.ref a) (.type "list") := by
  rcases h with (h | ⟨o, h⟩) | ⟨o, _, _, h, c, _⟩
  · exact .base (.lst h)
  · exact .base (.frz h)
  · exact .kList h c
theorem tyx_tup {K : PySem.W.Frag} {H : Hp} {a : Addr} {xs : List V} (h : SqT K H a xs) : TyX K H (.ref a) (.type "tuple") := by
  rcases h with (h | ⟨o, h⟩) | ⟨o, _, _, h, c, _⟩
  · exact .base (.tup h)
  · exact .fTuple h
  · exact .kTuple h c
/-- the built-in class of data -/
def tyD : PyData → String
  | .none => "NoneType"
  | .bool _ => "bool"
  | .int _ => "int"
  | .str _ => "str"
  | .list _ => "list"
  | .tuple _ => "tuple"
  | .dict _ => "dict"
theorem tyx_d {K : PySem.W.Frag} {H : Hp} {x : V} {d : PyData} (h : Dp K H x d) : TyX K H x (.type (tyD d)) := by
  cases h with
  | non => exact .base .non
  | bl b => exact .base (.bl b)
  | int i => exact .base (.int i)
  | str x => exact .base (.str x)
  | lst h _ => exact tyx_list h
  | tup h _ => exact tyx_tup h
section
variable {P : Program} {w : World} {K : PySem.W.Frag} {mg : Str → Option Value} {base : Heap}
def spIsInt : Sp := fun vs H Q _ => ∃ i : Int, vs = [.int i] ∧ Q (.bl true) H
/-- two values that read as the same data of at most n layers -/
def spSame (K : PySem.W.Frag) (n : Nat) : Sp := fun vs H Q _ => ∃ (x y : V) (d : PyData), vs = [x, y] ∧ Fit n d ∧ Dp K H x d ∧ Dp K H y d ∧ Q (.bl true) H
end
end DP
namespace DP
open PySem PySem.Spec PyProof.Rows L2
section
variable {P : Program} {w : World} {K : PySem.W.Frag} {mg : Str → Option Value} {base : Heap}
theorem d_is_integerH (B : Bt mg) (A : At K mg "_law_is_integer" s__law_is_integer ["_law_actual"]) : DefH P w K mg base CX0 1 "_law_is_integer" ["_law_actual"] spIsInt := by
  refine A.okH sc__law_is_integer (fun vs H Q E h => ?_) (fun f cdv A outer s H vs Q E p hot hr h => ?_)
  · obtain ⟨i, rfl, _⟩ := h
    rfl
  obtain ⟨i, rfl, q⟩ := h
  refine ⟨_, pss_one (ps_ret (pe_and (pe_callB (call_isi) (by rfl) B.isinstance (by decide +kernel) (pa_cons (pv 0) (pa_cons (pe_bltn (v := .ty "int") (u := .type "int") (by rfl) B.int (by decide +kernel) rfl) pa_nil))) (pe_one (pe_not (pe_callB (call_isi) (by rfl) B.isinstance (by decide +kernel) (pa_cons (pv 0) (pa_cons (pe_bltn (v := .ty "bool") (u := .type "bool") (by rfl) B.bool (by decide +kernel) rfl) pa_nil)))))))
    , ?_⟩
  refine ⟨_, rfl, _, .ty "int", _, _, true, rfl, .ty "int", .base (.int i), kit_ty (by decide +kernel), true, rfl, iteT ?_⟩
  exact ⟨_, rfl, _, .ty "bool", _, _, false, rfl, .ty "bool", .base (.int i), kit_ty (by decide +kernel), false, rfl, q⟩
theorem d_same1H {n : Nat} (B : Bt mg) (D_law_is_integer : DefH P w K mg base CX0 1 "_law_is_integer" ["_law_actual"] spIsInt) (D_law_same : DefH P w K mg base CX0 (n + 1) "_law_same" ["_law_actual", "_law_expected"] (spSame K n))
    (A : At K mg "_law_same" s__law_same ["_law_actual", "_law_expected"]) : DefH P w K mg base CX0 (n + 2) "_law_same" ["_law_actual", "_law_expected"] (spSame K (n + 1)) := by
  refine A.okH sc__law_same (fun vs H Q E h => ?_) (fun f cdv A outer s H vs Q E p hot hr h => ?_)
  · obtain ⟨x, y, d, rfl, _⟩ := h
    rfl
  obtain ⟨x, y, d, rfl, fit, dx, dy, q⟩ := h
  refine ⟨_, pss_cons (ps_if (pt_cmpR op_isN (pv 1) pe_non (nomark _))
      (pss_one (ps_ret (pe_cmpR op_isN (pv 0) pe_non (nomark _))))
      (pss_nil))
  (pss_cons (ps_if (pt_val (pe_callB (call_isi) (by rfl) B.isinstance (by decide +kernel) (pa_cons (pv 1) (pa_cons (pe_bltn (v := .ty "bool") (u := .type "bool") (by rfl) B.bool (by decide +kernel) rfl) pa_nil))))
      (pss_one (ps_ret (pe_and (pe_callB (call_isi) (by rfl) B.isinstance (by decide +kernel) (pa_cons (pv 0) (pa_cons (pe_bltn (v := .ty "bool") (u := .type "bool") (by rfl) B.bool (by decide +kernel) rfl) pa_nil))) (pe_one (pe_cmpR op_eq (pv 0) (pv 1) (nomark _))))))
      (pss_nil))
  (pss_cons (ps_if (pt_val (pe_callB (call_isi) (by rfl) B.isinstance (by decide +kernel) (pa_cons (pv 1) (pa_cons (pe_bltn (v := .ty "int") (u := .type "int") (by rfl) B.int (by decide +kernel) rfl) pa_nil))))
      (pss_one (ps_ret (pe_and (pe_fH D_law_is_integer (L2H.RoomH.mono hr (by omega)) hot (pa_cons (pv 0) pa_nil)) (pe_one (pe_cmpR op_eq (pv 0) (pv 1) (nomark _))))))
      (pss_nil))
  (pss_cons (ps_if (pt_val (pe_callB (call_isi) (by rfl) B.isinstance (by decide +kernel) (pa_cons (pv 1) (pa_cons (pe_bltn (v := .ty "str") (u := .type "str") (by rfl) B.str (by decide +kernel) rfl) pa_nil))))
      (pss_one (ps_ret (pe_and (pe_callB (call_isi) (by rfl) B.isinstance (by decide +kernel) (pa_cons (pv 0) (pa_cons (pe_bltn (v := .ty "str") (u := .type "str") (by rfl) B.str (by decide +kernel) rfl) pa_nil))) (pe_one (pe_cmpR op_eq (pv 0) (pv 1) (nomark _))))))
      (pss_nil))
  (pss_cons (ps_if (PW.pt (pw_and (pt_val (pe_callB (call_isi) (by rfl) B.isinstance (by decide +kernel) (pa_cons (pv 1) (pa_cons (pe_bltn (v := .ty "tuple") (u := .type "tuple") (by rfl) B.tuple (by decide +kernel) rfl) pa_nil)))) (pw_and1 (pt_not (pt_val (pe_callB (call_isi) (by rfl) B.isinstance (by decide +kernel) (pa_cons (pv 0) (pa_cons (pe_bltn (v := .ty "tuple") (u := .type "tuple") (by rfl) B.tuple (by decide +kernel) rfl) pa_nil))))))))
      (pss_one (ps_ret pe_bl))
      (pss_nil))
  (pss_cons (ps_if (PW.pt (pw_and (pt_val (pe_callB (call_isi) (by rfl) B.isinstance (by decide +kernel) (pa_cons (pv 1) (pa_cons (pe_bltn (v := .ty "list") (u := .type "list") (by rfl) B.list (by decide +kernel) rfl) pa_nil)))) (pw_and1 (pt_not (pt_val (pe_callB (call_isi) (by rfl) B.isinstance (by decide +kernel) (pa_cons (pv 0) (pa_cons (pe_bltn (v := .ty "list") (u := .type "list") (by rfl) B.list (by decide +kernel) rfl) pa_nil))))))))
      (pss_one (ps_ret pe_bl))
      (pss_nil))
  (pss_cons (ps_if (pt_cmpR op_ne (pe_callB (call_len_seq) (by rfl) B.len (by decide +kernel) (pa_cons (pv 0) pa_nil)) (pe_callB (call_len_seq) (by rfl) B.len (by decide +kernel) (pa_cons (pv 1) pa_nil)) (nomark _))
      (pss_one (ps_ret pe_bl))
      (pss_nil))
  (pss_cons (L2H.ps_forH (passes_of rfl) hot (L2H.pi_range1H (by rfl) B.range (pa_cons (pe_callB (call_len_seq) (by rfl) B.len (by decide +kernel) (pa_cons (pv 1) pa_nil)) pa_nil)) (pg_name (i := 2) sc__law_same.nd rfl (Or.inl rfl))
      (pss_one (ps_if (pt_not (pt_val (pe_fH D_law_same (L2H.RoomH.mono hr (by omega)) hot (pa_cons (pe_ix ix_seq (pv 0) (pv 2) (fun _ _ => rfl)) (pa_cons (pe_ix ix_seq (pv 1) (pv 2) (fun _ _ => rfl)) pa_nil)))))
          (pss_one (ps_ret pe_bl))
          (pss_nil))))
  (pss_one (ps_ret pe_bl)))))))))
    , ?_⟩
  cases d with
  | none =>
    cases dx
    cases dy
    exact ⟨_, rfl, rfl, _, rfl, iteT' (by decide) ⟨_, rfl, rfl, q⟩⟩
  | bool b =>
    cases dx
    cases dy
    refine ⟨_, rfl, rfl, _, rfl, iteF' (decide_eq_false (fun z => nomatch z)) ⟨_, rfl, ⟨_, _, _, _, true, rfl, .ty _, tyx_d (.bl b), kit_ty (by simp only [tyD]; decide +kernel), ⟨_, rfl, iteT ?_⟩⟩⟩⟩
    refine ⟨_, rfl, ⟨_, _, _, _, true, rfl, .ty _, tyx_d (.bl b), kit_ty (by simp only [tyD]; decide +kernel), ⟨_, rfl, iteT ⟨_, rfl, _, rfl, rfl, ?_⟩⟩⟩⟩
    rw [decide_eq_true (rfl : V.bl b = V.bl b)]
    exact q
  | int i =>
    cases dx
    cases dy
    refine ⟨_, rfl, rfl, _, rfl, iteF' (decide_eq_false (fun z => nomatch z)) ⟨_, rfl, ⟨_, _, _, _, false, rfl, .ty _, tyx_d (.int i), kit_ty (by simp only [tyD]; decide +kernel), ⟨_, rfl, iteF ?_⟩⟩⟩⟩
    refine ⟨_, rfl, ⟨_, _, _, _, true, rfl, .ty _, tyx_d (.int i), kit_ty (by simp only [tyD]; decide +kernel), ⟨_, rfl, iteT ?_⟩⟩⟩
    refine ⟨_, rfl, i, rfl, _, rfl, iteT ⟨_, rfl, _, rfl, rfl, ?_⟩⟩
    rw [decide_eq_true (rfl : V.int i = V.int i)]
    exact q
  | str z =>
    cases dx
    cases dy
    refine ⟨_, rfl, rfl, _, rfl, iteF' (decide_eq_false (fun z => nomatch z)) ⟨_, rfl, ⟨_, _, _, _, false, rfl, .ty _, tyx_d (.str z), kit_ty (by simp only [tyD]; decide +kernel), ⟨_, rfl, iteF ?_⟩⟩⟩⟩
    refine ⟨_, rfl, ⟨_, _, _, _, false, rfl, .ty _, tyx_d (.str z), kit_ty (by simp only [tyD]; decide +kernel), ⟨_, rfl, iteF ?_⟩⟩⟩
    refine ⟨_, rfl, ⟨_, _, _, _, true, rfl, .ty _, tyx_d (.str z), kit_ty (by simp only [tyD]; decide +kernel), ⟨_, rfl, iteT ?_⟩⟩⟩
    refine ⟨_, rfl, ⟨_, _, _, _, true, rfl, .ty _, tyx_d (.str z), kit_ty (by simp only [tyD]; decide +kernel), ⟨_, rfl, iteT ⟨_, rfl, _, rfl, rfl, ?_⟩⟩⟩⟩
    rw [decide_eq_true (rfl : V.str z = V.str z)]
    exact q
  | dict kvs => cases fit
  | list ds =>
    have dx' := dx
    have dy' := dy
    cases dx with
    | @lst a xs _ hx ax =>
    cases dy with
    | @lst b ys _ hy ay =>
    refine ⟨_, rfl, rfl, _, rfl, iteF' (decide_eq_false (fun z => nomatch z)) ⟨_, rfl, ⟨_, _, _, _, false, rfl, .ty _, tyx_d dy', kit_ty (by simp only [tyD]; decide +kernel), ⟨_, rfl, iteF ?_⟩⟩⟩⟩
    refine ⟨_, rfl, ⟨_, _, _, _, false, rfl, .ty _, tyx_d dy', kit_ty (by simp only [tyD]; decide +kernel), ⟨_, rfl, iteF ?_⟩⟩⟩
    refine ⟨_, rfl, ⟨_, _, _, _, false, rfl, .ty _, tyx_d dy', kit_ty (by simp only [tyD]; decide +kernel), ⟨_, rfl, iteF ?_⟩⟩⟩
    refine ⟨_, rfl, ⟨_, _, _, _, false, rfl, .ty _, tyx_d dy', kit_ty (by simp only [tyD]; decide +kernel), ⟨_, rfl, iteF ?_⟩⟩⟩
    refine iteF ?_
    refine ⟨_, rfl, ⟨_, _, _, _, true, rfl, .ty _, tyx_d dy', kit_ty (by simp only [tyD]; decide +kernel), ⟨_, rfl, iteT ?_⟩⟩⟩
    refine ⟨_, rfl, ⟨_, _, _, _, true, rfl, .ty _, tyx_d dx', kit_ty (by simp only [tyD]; decide +kernel), ⟨_, rfl, iteF ?_⟩⟩⟩
    have lx := dpAll_len ax
    have ly := dpAll_len ay
    refine ⟨_, rfl, a, _, rfl, .inl hx, _, rfl, b, _, rfl, .inl hy, rfl, _, rfl, iteF' (by rw [lx, ly, decide_eq_true rfl]; rfl) ?_⟩
    have fl := fit.1
    refine ⟨_, rfl, b, _, rfl, .inl hy, _, rfl, by omega, by omega, for_range (lo := 0) (n := ys.length) (fun i σ H' => H' = H ∧ ∃ y2, σ = [some (.ref a), some (.ref b), y2]) ⟨rfl, none, rfl⟩ (fun i σ H1 hi hI => ?_) (fun σ H1 hI => ?_)⟩
    · obtain ⟨rfl, y2, rfl⟩ := hI
      obtain ⟨u, d1, u1, u2, u3⟩ := dpAll_at i ax (by omega)
      obtain ⟨v, d2, v1, v2, v3⟩ := dpAll_at i ay (by omega)
      have e : d1 = d2 := Option.some.inj (u2.symm.trans v2)
      subst e
      have fd := fit.2 d1 (List.mem_of_getElem? u2)
      have u4 : atI xs (0 + (i : Int)) = some u := by rw [Int.zero_add]; exact atI_nat u1
      have v4 : atI ys (0 + (i : Int)) = some v := by rw [Int.zero_add]; exact atI_nat v1
      refine ⟨_, rfl, _, rfl, .inl ⟨a, _, _, u, rfl, rfl, hx, u4, _, rfl, _, rfl, .inl ⟨b, _, _, v, rfl, rfl, hy, v4, u, v, d1, rfl, fd, u3, v3, ?_⟩⟩⟩
      exact ⟨_, rfl, iteF ⟨rfl, _, rfl⟩⟩
    · obtain ⟨rfl, y2, rfl⟩ := hI
      exact q
  | tuple ds =>
    have dx' := dx
    have dy' := dy
    cases dx with
    | @tup a xs _ hx ax =>
    cases dy with
    | @tup b ys _ hy ay =>
    refine ⟨_, rfl, rfl, _, rfl, iteF' (decide_eq_false (fun z => nomatch z)) ⟨_, rfl, ⟨_, _, _, _, false, rfl, .ty _, tyx_d dy', kit_ty (by simp only [tyD]; decide +kernel), ⟨_, rfl, iteF ?_⟩⟩⟩⟩
    refine ⟨_, rfl, ⟨_, _, _, _, false, rfl, .ty _, tyx_d dy', kit_ty (by simp only [tyD]; decide +kernel), ⟨_, rfl, iteF ?_⟩⟩⟩
    refine ⟨_, rfl, ⟨_, _, _, _, false, rfl, .ty _, tyx_d dy', kit_ty (by simp only [tyD]; decide +kernel), ⟨_, rfl, iteF ?_⟩⟩⟩
    refine ⟨_, rfl, ⟨_, _, _, _, true, rfl, .ty _, tyx_d dy', kit_ty (by simp only [tyD]; decide +kernel), ⟨_, rfl, iteT ?_⟩⟩⟩
    refine ⟨_, rfl, ⟨_, _, _, _, true, rfl, .ty _, tyx_d dx', kit_ty (by simp only [tyD]; decide +kernel), ⟨_, rfl, iteF ?_⟩⟩⟩
    refine ⟨_, rfl, ⟨_, _, _, _, false, rfl, .ty _, tyx_d dy', kit_ty (by simp only [tyD]; decide +kernel), ⟨_, rfl, iteF ?_⟩⟩⟩
    refine iteF ?_
    have lx := dpAll_len ax
    have ly := dpAll_len ay
    refine ⟨_, rfl, a, _, rfl, .inr hx, _, rfl, b, _, rfl, .inr hy, rfl, _, rfl, iteF' (by rw [lx, ly, decide_eq_true rfl]; rfl) ?_⟩
    have fl := fit.1
    refine ⟨_, rfl, b, _, rfl, .inr hy, _, rfl, by omega, by omega, for_range (lo := 0) (n := ys.length) (fun i σ H' => H' = H ∧ ∃ y2, σ = [some (.ref a), some (.ref b), y2]) ⟨rfl, none, rfl⟩ (fun i σ H1 hi hI => ?_) (fun σ H1 hI => ?_)⟩
    · obtain ⟨rfl, y2, rfl⟩ := hI
      obtain ⟨u, d1, u1, u2, u3⟩ := dpAll_at i ax (by omega)
      obtain ⟨v, d2, v1, v2, v3⟩ := dpAll_at i ay (by omega)
      have e : d1 = d2 := Option.some.inj (u2.symm.trans v2)
      subst e
      have fd := fit.2 d1 (List.mem_of_getElem? u2)
      have u4 : atI xs (0 + (i : Int)) = some u := by rw [Int.zero_add]; exact atI_nat u1
      have v4 : atI ys (0 + (i : Int)) = some v := by rw [Int.zero_add]; exact atI_nat v1
      refine ⟨_, rfl, _, rfl, .inr (.inl ⟨a, _, _, u, rfl, rfl, hx, u4, _, rfl, _, rfl, .inr (.inl ⟨b, _, _, v, rfl, rfl, hy, v4, u, v, d1, rfl, fd, u3, v3, ?_⟩)⟩)⟩
      exact ⟨_, rfl, iteF ⟨rfl, _, rfl⟩⟩
    · obtain ⟨rfl, y2, rfl⟩ := hI
      exact q
theorem none_sameH (A : At K mg "_law_same" s__law_same ["_law_actual", "_law_expected"]) : DefH P w K mg base CX0 1 "_law_same" ["_law_actual", "_law_expected"] (spSame K 0) := by
  obtain ⟨f, fd, G, m, b⟩ := A.ex
  have no : ∀ vs H Q E, ¬ spSame K 0 vs H Q E := fun vs H Q E h => by
    obtain ⟨x, y, d, _, fit, _⟩ := h
    cases d <;> exact fit
  exact ⟨f, fd, ⟨fun vs H Q E h => absurd h (no vs H Q E), fun A outer s H args us vs Q E p _ _ _ _ _ _ h => absurd h (no vs H Q E)⟩, m, G.kp, b⟩
theorem d_sameH (B : Bt mg) (D : DefH P w K mg base CX0 1 "_law_is_integer" ["_law_actual"] spIsInt) (A : At K mg "_law_same" s__law_same ["_law_actual", "_law_expected"]) :
    ∀ n : Nat, DefH P w K mg base CX0 (n + 1) "_law_same" ["_law_actual", "_law_expected"] (spSame K n)
  | 0 => none_sameH A
  | n + 1 => d_same1H B D (d_sameH B D A n) A
end
end DP
namespace DP
open PySem PySem.Spec PyProof.Rows L2
theorem lk_Recording_name {r : RecD} : List.lookup ("name" : Str) (recF r) = some (.str r.name : V) := by unfold recF; repeat (first | exact lk_hit | rw [lk_miss (by decide +kernel)])
theorem lk_Pass_name {p : PasD} {t : Addr} : List.lookup ("name" : Str) (pasF p t) = some (.str p.name : V) := by unfold pasF; repeat (first | exact lk_hit | rw [lk_miss (by decide +kernel)])
theorem lk_World_horizon {u : Str} {h : Int} {t0 t1 t2 t3 : Addr} : List.lookup ("horizon" : Str) (worF u h t0 t1 t2 t3) = some (.int h : V) := by unfold worF; repeat (first | exact lk_hit | rw [lk_miss (by decide +kernel)])
theorem lk_World_recordings {u : Str} {h : Int} {t0 t1 t2 t3 : Addr} : List.lookup ("recordings" : Str) (worF u h t0 t1 t2 t3) = some (.ref t2 : V) := by unfold worF; repeat (first | exact lk_hit | rw [lk_miss (by decide +kernel)])
theorem lk_World_passes {u : Str} {h : Int} {t0 t1 t2 t3 : Addr} : List.lookup ("passes" : Str) (worF u h t0 t1 t2 t3) = some (.ref t3 : V) := by unfold worF; repeat (first | exact lk_hit | rw [lk_miss (by decide +kernel)])
end DP
namespace DP
open PySem PySem.Spec PyProof.Rows L2
mutual
theorem dp_map {K : PySem.W.Frag} {H H' : Hp} (fT : ∀ b xs, SqT K H b xs → SqT K H' b xs) (fL : ∀ b xs, SqL K H b xs → SqL K H' b xs) : ∀ {v : V} {d : PyData}, Dp K H v d → Dp K H' v d
  | _, _, .non => .non
  | _, _, .bl b => .bl b
  | _, _, .int i => .int i
  | _, _, .str x => .str x
  | _, _, .lst h t => .lst (fL _ _ h) (dpAll_map fT fL t)
  | _, _, .tup h t => .tup (fT _ _ h) (dpAll_map fT fL t)
theorem dpAll_map {K : PySem.W.Frag} {H H' : Hp} (fT : ∀ b xs, SqT K H b xs → SqT K H' b xs) (fL : ∀ b xs, SqL K H b xs → SqL K H' b xs) : ∀ {xs : List V} {ds : List PyData}, DpAll K H xs ds → DpAll K H' xs ds
  | _, _, .nil => .nil
  | _, _, .cons a t => .cons (dp_map fT fL a) (dpAll_map fT fL t)
end
theorem dp_same {K : PySem.W.Frag} {H H' : Hp} (s : Same H H') {v : V} {d : PyData} (h : Dp K H v d) : Dp K H' v d := dp_map (fun _ _ => Same.tup s) (fun _ _ => s.seq) h
end DP
namespace DP
open PySem PySem.Spec PyProof.Rows L2
abbrev oor : Str := "number out of range"
theorem due_at {ws : List Str} {r : Nat} {u : Str} (h : ws[r]? = some u) (hn : u ≠ Str.ofString "") : rdDue ws r = .ok u := by
  unfold rdDue
  rw [h]
  exact if_neg hn
theorem choice_at {ws : List Str} {r : Nat} {x : Str} (h : ws[r]? = some x) (hn : x ≠ Str.ofString "") : rdChoice ws r [x] = .ok x := by
  unfold rdChoice
  rw [due_at h hn]
  exact if_pos List.mem_cons_self
theorem num_ne {m : Int} (h0 : 0 ≤ m) (h1 : m < 10000000) : num m ≠ Str.ofString "" := fun z => (num_wd h0 h1).1 (by rw [z]; decide +kernel)
theorem num_at {ws : List Str} {r : Nat} {lo hi m : Int} (h : ws[r]? = some (num m)) (h0 : 0 ≤ m) (h1 : m < 10000000) : rdNum ws r lo hi = if m < lo ∨ hi < m then .error (r, oor) else .ok m := by
  unfold rdNum
  rw [due_at h (num_ne h0 h1)]
  dsimp only
  rw [if_pos (isNumB_of h0 h1), numV_num h0 h1]
theorem fld_at {ws : List Str} {r : Nat} {x : Str} {lo hi m : Int} (h : ws[r]? = some x) (hx : x ≠ Str.ofString "") (h2 : ws[r + 1]? = some (num m)) (b : 0 ≤ m ∧ m < 10000000) : rdField ws r x lo hi = if m < lo ∨ hi < m then .error (r + 1, oor) else .ok m := by
  unfold rdField
  rw [choice_at h hx]
  exact num_at h2 b.1 b.2
theorem name_ne {u : Str} (h : NameOk u) : u ≠ Str.ofString "" := fun z => h.wd.1 (by rw [z]; decide +kernel)
theorem isNameB_of {u : Str} (h : NameOk u) : isNameB u = true := by
  have hs := h.signs
  obtain ⟨c, r, e, hc, _, hl⟩ := h
  have hlen : u.length ≤ 15 := by
    rw [TL.len_tl, show TL.tl u = tl u from rfl, e, List.length_cons]
    omega
  unfold isNameB
  rw [decide_eq_false (by omega), e, List.head?_cons]
  dsimp only
  rw [show letC c = true from decide_eq_true (let_in hc), ← e]
  refine List.all_eq_true.mpr fun x hx => ?_
  rcases Bool.or_eq_true _ _ ▸ hs x hx with z | z
  · rw [show letC x = true from decide_eq_true (let_in z)]; rfl
  · rw [show digC x = true from digC_of (isD_lt z), Bool.or_true]
theorem dname_at {ws : List Str} {r : Nat} {u : Str} (h : ws[r]? = some u) (hu : NameOk u) : rdDueName ws r = .ok u := by
  unfold rdDueName
  rw [due_at h (name_ne hu)]
  exact if_pos (isNameB_of hu)
theorem new_at {ws : List Str} {r : Nat} {u : Str} {used : List Str} (h : ws[r]? = some u) (hu : NameOk u) (hn : u ∉ used) : rdNew ws r used = .ok u := by
  unfold rdNew
  rw [dname_at h hu]
  exact if_neg hn
theorem known_at {ws : List Str} {r : Nat} {u : Str} {ns : List Str} (h : ws[r]? = some u) (hu : NameOk u) (hn : u ∈ ns) : rdKnown ws r ns 0 = .ok (idxS u ns) := by
  unfold rdKnown
  rw [dname_at h hu]
  dsimp only
  rw [if_pos hn, if_neg (by omega)]
theorem seq2_if {α β : Type} {c : Prop} [Decidable c] {e : Er} {x : Rd α} {f : α → Rd β} : seq2 (if c then .error e else x) f = if c then .error e else seq2 x f := by split <;> rfl
theorem min_lt2 {x y z : Int} : ((if x < y then x else y) < z) = (x < z ∨ y < z) := by
  split <;> exact propext (by omega)
theorem seq2_okv {α β : Type} {a : α} {f : α → Rd β} : seq2 (.ok a : Rd α) f = f a := rfl
theorem light2 {ws : List Str} {h l1 l2 : Int} (hlen : ws.length = 17) (h1 : ws[15]? = some (num l1)) (h2 : ws[16]? = some (num l2)) (b1 : 0 ≤ l1 ∧ l1 < 10000000) (b2 : 0 ≤ l2 ∧ l2 < 10000000) :
    rdLight ws h ws.length 15 0 = if l1 < 0 ∨ h - 1 < l1 then .error (15, oor) else if l2 < l1 + 1 ∨ h < l2 then .error (16, oor) else .ok () := by
  rw [hlen]
  show (if 15 < ws.length then (match rdNum ws 15 0 (h - 1) with | .error e => Except.error e | .ok f => match rdNum ws 16 (f + 1) h with | .error e => Except.error e | .ok g => rdLight ws h 16 17 g) else Except.ok ()) = _
  rw [hlen, if_pos (by decide), num_at h1 b1.1 b1.2]
  by_cases c : l1 < 0 ∨ h - 1 < l1
  · rw [if_pos c, if_pos c]
  · rw [if_neg c, if_neg c]
    dsimp only
    rw [num_at h2 b2.1 b2.2]
    by_cases c2 : l2 < l1 + 1 ∨ h < l2
    · rw [if_pos c2, if_pos c2]
    · rw [if_neg c2, if_neg c2]
      show (if 17 < ws.length then _ else _) = _
      rw [hlen]
      rfl
theorem sort_at {ws : List Str} {k i : Nat} {N : List (List Str)} {x : Str} (h0 : ws[0]? = some x) (hx : x ≠ Str.ofString "") (hm : x ∈ sortsL) (hi : idxS x sortsL = i) (hk : ¬ i < k) (hl : ((nmsAt N i).length : Int) ≠ mostN i) : rdSort ws k N = .ok i := by
  unfold rdSort
  rw [due_at h0 hx, seq2_okv]
  rw [if_pos hm, hi, if_neg hk, if_neg hl]
theorem line_ok {h : Int} {k i : Nat} {N : List (List Str)} {ws : List Str} {nm : Str} (h1 : rdSort ws k N = .ok i) (h2 : rdKind i ws h N = .ok nm) (h3 : ¬ finK i ws < ws.length) : rdLine h k N ws = .ok (i, N.set i (nmsAt N i ++ [nm])) := by
  unfold rdLine
  rw [h1, seq2_okv, h2, seq2_okv, show rdFinish ws (finK i ws) = .ok () by unfold rdFinish; rw [if_neg h3], seq2_okv]
theorem line_err {h : Int} {k i : Nat} {N : List (List Str)} {ws : List Str} {e : Er} (h1 : rdSort ws k N = .ok i) (h2 : rdKind i ws h N = .error e) : rdLine h k N ws = .error e := by
  unfold rdLine
  rw [h1, seq2_okv, h2]
  rfl
theorem all_ok {h n : Int} {k : Nat} {N : List (List Str)} {ws : List Str} {rest : List (List Str)} {s : Nat × List (List Str)} (h1 : rdLine h k N ws = .ok s) : rdAll h (ws :: rest) n k N = rdAll h rest (n + 1) s.1 s.2 := by
  show (match rdLine h k N ws with | .error e => Except.error (n, colW ws e.1, e.2) | .ok s => rdAll h rest (n + 1) s.1 s.2) = _
  rw [h1]
theorem all_err {h n : Int} {k : Nat} {N : List (List Str)} {ws : List Str} {rest : List (List Str)} {e : Er} (h1 : rdLine h k N ws = .error e) : rdAll h (ws :: rest) n k N = .error (n, colW ws e.1, e.2) := by
  show (match rdLine h k N ws with | .error e => Except.error (n, colW ws e.1, e.2) | .ok s => rdAll h rest (n + 1) s.1 s.2) = _
  rw [h1]
def horL (h : Int) : List Str := [Str.ofString "horizon", num h]
theorem hor_at {h : Int} (b : 0 ≤ h ∧ h < 10000000) {rest : List (List Str)} : rdText (horL h :: rest) Str.empty = if h < 1 ∨ 500 < h then .error (1, colW (horL h) 1, oor) else (match rdAll h rest 2 0 [[], [], [], []] with | .error f => .error f | .ok _ => .ok h) := by
  unfold rdText
  rw [if_pos rfl]
  show (match (seq2 (rdField (horL h) 0 "horizon" 1 500) fun h' => seq2 (rdFinish (horL h) 2) fun _ => (Except.ok h' : Rd Int)) with | .error e => Except.error (1, colW (horL h) e.1, e.2) | .ok h' => match rdAll h' rest 2 0 [[], [], [], []] with | .error f => Except.error f | .ok _ => Except.ok h') = _
  rw [fld_at (ws := horL h) (r := 0) (m := h) rfl (by decide +kernel) rfl b, seq2_if]
  by_cases c : h < 1 ∨ 500 < h
  · rw [if_pos c, if_pos c]
  · rw [if_neg c, if_neg c, seq2_okv]
    rfl
def satL (n0 : Str) (a1 a2 a3 a4 a5 a6 l1 l2 : Int) : List Str := [Str.ofString "satellite", n0, Str.ofString "store", num a1, Str.ofString "battery", num a2, Str.ofString "level", num a3, Str.ofString "reserve", num a4, Str.ofString "charge", num a5, Str.ofString "settle", num a6, Str.ofString "light", num l1, num l2]
theorem sat_eval {h a1 a2 a3 a4 a5 a6 l1 l2 : Int} {n0 : Str} (Hn0 : NameOk n0) (b_a1 : 0 ≤ a1 ∧ a1 < 10000000) (b_a2 : 0 ≤ a2 ∧ a2 < 10000000) (b_a3 : 0 ≤ a3 ∧ a3 < 10000000) (b_a4 : 0 ≤ a4 ∧ a4 < 10000000) (b_a5 : 0 ≤ a5 ∧ a5 < 10000000) (b_a6 : 0 ≤ a6 ∧ a6 < 10000000) (b_l1 : 0 ≤ l1 ∧ l1 < 10000000) (b_l2 : 0 ≤ l2 ∧ l2 < 10000000) : rdSat (satL n0 a1 a2 a3 a4 a5 a6 l1 l2) h [] = if a1 < 0 ∨ 1000000 < a1 then .error (3, oor) else if a2 < 0 ∨ 1000000 < a2 then .error (5, oor) else if a3 < 0 ∨ a2 < a3 then .error (7, oor) else if a4 < 0 ∨ a3 < a4 then .error (9, oor) else if a5 < 0 ∨ 1000 < a5 then .error (11, oor) else if a6 < 0 ∨ 60 < a6 then .error (13, oor) else if l1 < 0 ∨ h - 1 < l1 then .error (15, oor) else if l2 < l1 + 1 ∨ h < l2 then .error (16, oor) else .ok n0 := by
  have f0 : rdNew (satL n0 a1 a2 a3 a4 a5 a6 l1 l2) 1 [] = .ok n0 := new_at rfl Hn0 List.not_mem_nil
  have f1 : ∀ lo hi, rdField (satL n0 a1 a2 a3 a4 a5 a6 l1 l2) 2 "store" lo hi = if a1 < lo ∨ hi < a1 then .error (3, oor) else .ok a1 := fun lo hi => fld_at rfl (by decide +kernel) rfl b_a1
  have f2 : ∀ lo hi, rdField (satL n0 a1 a2 a3 a4 a5 a6 l1 l2) 4 "battery" lo hi = if a2 < lo ∨ hi < a2 then .error (5, oor) else .ok a2 := fun lo hi => fld_at rfl (by decide +kernel) rfl b_a2
  have f3 : ∀ lo hi, rdField (satL n0 a1 a2 a3 a4 a5 a6 l1 l2) 6 "level" lo hi = if a3 < lo ∨ hi < a3 then .error (7, oor) else .ok a3 := fun lo hi => fld_at rfl (by decide +kernel) rfl b_a3
  have f4 : ∀ lo hi, rdField (satL n0 a1 a2 a3 a4 a5 a6 l1 l2) 8 "reserve" lo hi = if a4 < lo ∨ hi < a4 then .error (9, oor) else .ok a4 := fun lo hi => fld_at rfl (by decide +kernel) rfl b_a4
  have f5 : ∀ lo hi, rdField (satL n0 a1 a2 a3 a4 a5 a6 l1 l2) 10 "charge" lo hi = if a5 < lo ∨ hi < a5 then .error (11, oor) else .ok a5 := fun lo hi => fld_at rfl (by decide +kernel) rfl b_a5
  have f6 : ∀ lo hi, rdField (satL n0 a1 a2 a3 a4 a5 a6 l1 l2) 12 "settle" lo hi = if a6 < lo ∨ hi < a6 then .error (13, oor) else .ok a6 := fun lo hi => fld_at rfl (by decide +kernel) rfl b_a6
  have c1 : rdChoice (satL n0 a1 a2 a3 a4 a5 a6 l1 l2) 14 ["light"] = .ok (Str.ofString "light") := choice_at rfl (by decide +kernel)
  have li : rdLight (satL n0 a1 a2 a3 a4 a5 a6 l1 l2) h (satL n0 a1 a2 a3 a4 a5 a6 l1 l2).length 15 0 = _ := light2 rfl rfl rfl b_l1 b_l2
  simp only [rdSat, f0, f1, f2, f3, f4, f5, f6, c1, li, seq2_if, seq2_okv, min_lt2]
def staL (n1 : Str) (a1 a2 : Int) : List Str := [Str.ofString "station", n1, Str.ofString "antennas", num a1, Str.ofString "turn", num a2]
theorem sta_eval {a1 a2 : Int} {n1 : Str} (Hn1 : NameOk n1) (b_a1 : 0 ≤ a1 ∧ a1 < 10000000) (b_a2 : 0 ≤ a2 ∧ a2 < 10000000) : rdSta (staL n1 a1 a2) [] = if a1 < 1 ∨ 3 < a1 then .error (3, oor) else if a2 < 0 ∨ 60 < a2 then .error (5, oor) else .ok n1 := by
  have f0 : rdNew (staL n1 a1 a2) 1 [] = .ok n1 := new_at rfl Hn1 List.not_mem_nil
  have f1 : ∀ lo hi, rdField (staL n1 a1 a2) 2 "antennas" lo hi = if a1 < lo ∨ hi < a1 then .error (3, oor) else .ok a1 := fun lo hi => fld_at rfl (by decide +kernel) rfl b_a1
  have f2 : ∀ lo hi, rdField (staL n1 a1 a2) 4 "turn" lo hi = if a2 < lo ∨ hi < a2 then .error (5, oor) else .ok a2 := fun lo hi => fld_at rfl (by decide +kernel) rfl b_a2
  simp only [rdSta, f0, f1, f2, seq2_if, seq2_okv, min_lt2]
def recL (n2 n0 : Str) (a1 a2 a3 a4 a5 a6 a7 a8 : Int) : List Str := [Str.ofString "recording", n2, Str.ofString "by", n0, Str.ofString "from", num a1, Str.ofString "to", num a2, Str.ofString "length", num a3, Str.ofString "size", num a4, Str.ofString "energy", num a5, Str.ofString "worth", num a6, Str.ofString "rank", num a7, Str.ofString "until", num a8]
theorem rec_eval {h a1 a2 a3 a4 a5 a6 a7 a8 : Int} {n2 n0 : Str} (Hn2 : NameOk n2) (Hn0 : NameOk n0) (b_a1 : 0 ≤ a1 ∧ a1 < 10000000) (b_a2 : 0 ≤ a2 ∧ a2 < 10000000) (b_a3 : 0 ≤ a3 ∧ a3 < 10000000) (b_a4 : 0 ≤ a4 ∧ a4 < 10000000) (b_a5 : 0 ≤ a5 ∧ a5 < 10000000) (b_a6 : 0 ≤ a6 ∧ a6 < 10000000) (b_a7 : 0 ≤ a7 ∧ a7 < 10000000) (b_a8 : 0 ≤ a8 ∧ a8 < 10000000) : rdRec (recL n2 n0 a1 a2 a3 a4 a5 a6 a7 a8) h [n0] [] = if a1 < 0 ∨ (h - 1) < a1 then .error (5, oor) else if a2 < a1 ∨ (h - 1 < a2 ∨ a1 + 20 < a2) then .error (7, oor) else if a3 < 1 ∨ (h - a2) < a3 then .error (9, oor) else if a4 < 0 ∨ 1000000 < a4 then .error (11, oor) else if a5 < 0 ∨ 1000000 < a5 then .error (13, oor) else if a6 < 1 ∨ 1000 < a6 then .error (15, oor) else if a7 < 1 ∨ 3 < a7 then .error (17, oor) else if a8 < 0 ∨ h < a8 then .error (19, oor) else .ok n2 := by
  have f0 : rdNew (recL n2 n0 a1 a2 a3 a4 a5 a6 a7 a8) 1 [] = .ok n2 := new_at rfl Hn2 List.not_mem_nil
  have f1 : ∀ lo hi, rdField (recL n2 n0 a1 a2 a3 a4 a5 a6 a7 a8) 4 "from" lo hi = if a1 < lo ∨ hi < a1 then .error (5, oor) else .ok a1 := fun lo hi => fld_at rfl (by decide +kernel) rfl b_a1
  have f2 : ∀ lo hi, rdField (recL n2 n0 a1 a2 a3 a4 a5 a6 a7 a8) 6 "to" lo hi = if a2 < lo ∨ hi < a2 then .error (7, oor) else .ok a2 := fun lo hi => fld_at rfl (by decide +kernel) rfl b_a2
  have f3 : ∀ lo hi, rdField (recL n2 n0 a1 a2 a3 a4 a5 a6 a7 a8) 8 "length" lo hi = if a3 < lo ∨ hi < a3 then .error (9, oor) else .ok a3 := fun lo hi => fld_at rfl (by decide +kernel) rfl b_a3
  have f4 : ∀ lo hi, rdField (recL n2 n0 a1 a2 a3 a4 a5 a6 a7 a8) 10 "size" lo hi = if a4 < lo ∨ hi < a4 then .error (11, oor) else .ok a4 := fun lo hi => fld_at rfl (by decide +kernel) rfl b_a4
  have f5 : ∀ lo hi, rdField (recL n2 n0 a1 a2 a3 a4 a5 a6 a7 a8) 12 "energy" lo hi = if a5 < lo ∨ hi < a5 then .error (13, oor) else .ok a5 := fun lo hi => fld_at rfl (by decide +kernel) rfl b_a5
  have f6 : ∀ lo hi, rdField (recL n2 n0 a1 a2 a3 a4 a5 a6 a7 a8) 14 "worth" lo hi = if a6 < lo ∨ hi < a6 then .error (15, oor) else .ok a6 := fun lo hi => fld_at rfl (by decide +kernel) rfl b_a6
  have f7 : ∀ lo hi, rdField (recL n2 n0 a1 a2 a3 a4 a5 a6 a7 a8) 16 "rank" lo hi = if a7 < lo ∨ hi < a7 then .error (17, oor) else .ok a7 := fun lo hi => fld_at rfl (by decide +kernel) rfl b_a7
  have f8 : ∀ lo hi, rdField (recL n2 n0 a1 a2 a3 a4 a5 a6 a7 a8) 18 "until" lo hi = if a8 < lo ∨ hi < a8 then .error (19, oor) else .ok a8 := fun lo hi => fld_at rfl (by decide +kernel) rfl b_a8
  have c1 : rdChoice (recL n2 n0 a1 a2 a3 a4 a5 a6 a7 a8) 2 ["by"] = .ok (Str.ofString "by") := choice_at rfl (by decide +kernel)
  have k1 : rdKnown (recL n2 n0 a1 a2 a3 a4 a5 a6 a7 a8) 3 [n0] 0 = .ok (idxS n0 [n0]) := known_at rfl Hn0 List.mem_cons_self
  simp only [rdRec, f0, f1, f2, f3, f4, f5, f6, f7, f8, c1, k1, seq2_if, seq2_okv, min_lt2]
def pasL (n3 n0 n1 : Str) (a1 a2 a3 a4 a5 : Int) : List Str := [Str.ofString "pass", n3, Str.ofString "by", n0, Str.ofString "over", n1, Str.ofString "from", num a1, Str.ofString "to", num a2, Str.ofString "room", num a3, Str.ofString "energy", num a4, Str.ofString "fee", num a5]
theorem pas_eval {h a1 a2 a3 a4 a5 : Int} {n3 n0 n1 : Str} (Hn3 : NameOk n3) (Hn0 : NameOk n0) (Hn1 : NameOk n1) (b_a1 : 0 ≤ a1 ∧ a1 < 10000000) (b_a2 : 0 ≤ a2 ∧ a2 < 10000000) (b_a3 : 0 ≤ a3 ∧ a3 < 10000000) (b_a4 : 0 ≤ a4 ∧ a4 < 10000000) (b_a5 : 0 ≤ a5 ∧ a5 < 10000000) : rdPas (pasL n3 n0 n1 a1 a2 a3 a4 a5) h [n0] [n1] [] = if a1 < 0 ∨ (h - 1) < a1 then .error (7, oor) else if a2 < (a1 + 1) ∨ h < a2 then .error (9, oor) else if a3 < 0 ∨ 1000000 < a3 then .error (11, oor) else if a4 < 0 ∨ 1000000 < a4 then .error (13, oor) else if a5 < 0 ∨ 1000 < a5 then .error (15, oor) else .ok n3 := by
  have f0 : rdNew (pasL n3 n0 n1 a1 a2 a3 a4 a5) 1 [] = .ok n3 := new_at rfl Hn3 List.not_mem_nil
  have f1 : ∀ lo hi, rdField (pasL n3 n0 n1 a1 a2 a3 a4 a5) 6 "from" lo hi = if a1 < lo ∨ hi < a1 then .error (7, oor) else .ok a1 := fun lo hi => fld_at rfl (by decide +kernel) rfl b_a1
  have f2 : ∀ lo hi, rdField (pasL n3 n0 n1 a1 a2 a3 a4 a5) 8 "to" lo hi = if a2 < lo ∨ hi < a2 then .error (9, oor) else .ok a2 := fun lo hi => fld_at rfl (by decide +kernel) rfl b_a2
  have f3 : ∀ lo hi, rdField (pasL n3 n0 n1 a1 a2 a3 a4 a5) 10 "room" lo hi = if a3 < lo ∨ hi < a3 then .error (11, oor) else .ok a3 := fun lo hi => fld_at rfl (by decide +kernel) rfl b_a3
  have f4 : ∀ lo hi, rdField (pasL n3 n0 n1 a1 a2 a3 a4 a5) 12 "energy" lo hi = if a4 < lo ∨ hi < a4 then .error (13, oor) else .ok a4 := fun lo hi => fld_at rfl (by decide +kernel) rfl b_a4
  have f5 : ∀ lo hi, rdField (pasL n3 n0 n1 a1 a2 a3 a4 a5) 14 "fee" lo hi = if a5 < lo ∨ hi < a5 then .error (15, oor) else .ok a5 := fun lo hi => fld_at rfl (by decide +kernel) rfl b_a5
  have c1 : rdChoice (pasL n3 n0 n1 a1 a2 a3 a4 a5) 2 ["by"] = .ok (Str.ofString "by") := choice_at rfl (by decide +kernel)
  have k1 : rdKnown (pasL n3 n0 n1 a1 a2 a3 a4 a5) 3 [n0] 0 = .ok (idxS n0 [n0]) := known_at rfl Hn0 List.mem_cons_self
  have c2 : rdChoice (pasL n3 n0 n1 a1 a2 a3 a4 a5) 4 ["over"] = .ok (Str.ofString "over") := choice_at rfl (by decide +kernel)
  have k2 : rdKnown (pasL n3 n0 n1 a1 a2 a3 a4 a5) 5 [n1] 0 = .ok (idxS n1 [n1]) := known_at rfl Hn1 List.mem_cons_self
  simp only [rdPas, f0, f1, f2, f3, f4, f5, c1, k1, c2, k2, seq2_if, seq2_okv, min_lt2]
section
variable {h : Int} {n0 n1 n2 n3 : Str} {ls lt lr lp : List Str}
structure FourOk (h : Int) (n0 n1 n2 n3 : Str) (ls lt lr lp : List Str) : Prop where
  b : 1 ≤ h ∧ h ≤ 500
  s0 : ls[0]? = some (Str.ofString "satellite")
  t0 : lt[0]? = some (Str.ofString "station")
  r0 : lr[0]? = some (Str.ofString "recording")
  p0 : lp[0]? = some (Str.ofString "pass")
  tl : lt.length = 6
  rl : lr.length = 20
  pl : lp.length = 16
theorem FourOk.start (F : FourOk h n0 n1 n2 n3 ls lt lr lp) {rest : List (List Str)} : rdText (horL h :: rest) Str.empty = (match rdAll h rest 2 0 [[], [], [], []] with | .error f => .error f | .ok _ => .ok h) := by
  have := F.b
  rw [hor_at (by omega), if_neg (by omega)]
theorem FourOk.ss (F : FourOk h n0 n1 n2 n3 ls lt lr lp) : rdSort ls 0 [[], [], [], []] = .ok 0 := sort_at F.s0 (by decide +kernel) (by decide +kernel) (by decide +kernel) (by decide) (by decide)
theorem FourOk.st (F : FourOk h n0 n1 n2 n3 ls lt lr lp) : rdSort lt 0 [[n0], [], [], []] = .ok 1 := sort_at F.t0 (by decide +kernel) (by decide +kernel) (by decide +kernel) (by decide) (by show ((0 : Nat) : Int) ≠ 3; decide)
theorem FourOk.sr (F : FourOk h n0 n1 n2 n3 ls lt lr lp) : rdSort lr 1 [[n0], [n1], [], []] = .ok 2 := sort_at F.r0 (by decide +kernel) (by decide +kernel) (by decide +kernel) (by decide) (by show ((0 : Nat) : Int) ≠ 10; decide)
theorem FourOk.sp (F : FourOk h n0 n1 n2 n3 ls lt lr lp) : rdSort lp 2 [[n0], [n1], [n2], []] = .ok 3 := sort_at F.p0 (by decide +kernel) (by decide +kernel) (by decide +kernel) (by decide) (by show ((0 : Nat) : Int) ≠ 10; decide)
theorem FourOk.a1 (F : FourOk h n0 n1 n2 n3 ls lt lr lp) (h1 : rdSat ls h [] = .ok n0) : rdAll h [ls, lt, lr, lp] 2 0 [[], [], [], []] = rdAll h [lt, lr, lp] 3 0 [[n0], [], [], []] := all_ok (line_ok F.ss h1 (Nat.lt_irrefl _))
theorem FourOk.a2 (F : FourOk h n0 n1 n2 n3 ls lt lr lp) (h2 : rdSta lt [] = .ok n1) : rdAll h [lt, lr, lp] 3 0 [[n0], [], [], []] = rdAll h [lr, lp] 4 1 [[n0], [n1], [], []] := all_ok (line_ok F.st h2 (by rw [F.tl]; show ¬ (6 < 6); decide))
theorem FourOk.a3 (F : FourOk h n0 n1 n2 n3 ls lt lr lp) (h3 : rdRec lr h [n0] [] = .ok n2) : rdAll h [lr, lp] 4 1 [[n0], [n1], [], []] = rdAll h [lp] 5 2 [[n0], [n1], [n2], []] := all_ok (line_ok F.sr h3 (by rw [F.rl]; show ¬ (20 < 20); decide))
theorem FourOk.a4 (F : FourOk h n0 n1 n2 n3 ls lt lr lp) (h4 : rdPas lp h [n0] [n1] [] = .ok n3) : rdAll h [lp] 5 2 [[n0], [n1], [n2], []] = rdAll h [] 6 3 [[n0], [n1], [n2], [n3]] := all_ok (line_ok F.sp h4 (by rw [F.pl]; show ¬ (16 < 16); decide))
theorem FourOk.all (F : FourOk h n0 n1 n2 n3 ls lt lr lp) (h1 : rdSat ls h [] = .ok n0) (h2 : rdSta lt [] = .ok n1) (h3 : rdRec lr h [n0] [] = .ok n2) (h4 : rdPas lp h [n0] [n1] [] = .ok n3) : rdText [horL h, ls, lt, lr, lp] Str.empty = .ok h := by
  rw [F.start, F.a1 h1, F.a2 h2, F.a3 h3, F.a4 h4]
  rfl
theorem FourOk.e1 (F : FourOk h n0 n1 n2 n3 ls lt lr lp) {e : Er} (h1 : rdSat ls h [] = .error e) : rdText [horL h, ls, lt, lr, lp] Str.empty = .error (2, colW ls e.1, e.2) := by
  rw [F.start, all_err (line_err F.ss h1)]
theorem FourOk.e2 (F : FourOk h n0 n1 n2 n3 ls lt lr lp) {e : Er} (h1 : rdSat ls h [] = .ok n0) (h2 : rdSta lt [] = .error e) : rdText [horL h, ls, lt, lr, lp] Str.empty = .error (3, colW lt e.1, e.2) := by
  rw [F.start, F.a1 h1, all_err (line_err F.st h2)]
end
section
variable {h : Int} {n0 n1 n2 n3 : Str}
theorem sat_dflt (Hb : 30 ≤ h ∧ h ≤ 500) (Hn0 : NameOk n0) (Hn1 : NameOk n1) (Hn2 : NameOk n2) (Hn3 : NameOk n3) : rdSat (satL n0 (5) (60) (50) (0) (1) (2) (2) (h)) h [] = .ok n0 := by
  rw [sat_eval Hn0 (by omega) (by omega) (by omega) (by omega) (by omega) (by omega) (by omega) (by omega)]
  repeat rw [if_neg (by omega)]
theorem sta_dflt (Hb : 30 ≤ h ∧ h ≤ 500) (Hn0 : NameOk n0) (Hn1 : NameOk n1) (Hn2 : NameOk n2) (Hn3 : NameOk n3) : rdSta (staL n1 (2) (4)) [] = .ok n1 := by
  rw [sta_eval Hn1 (by omega) (by omega)]
  repeat rw [if_neg (by omega)]
theorem rec_dflt (Hb : 30 ≤ h ∧ h ≤ 500) (Hn0 : NameOk n0) (Hn1 : NameOk n1) (Hn2 : NameOk n2) (Hn3 : NameOk n3) : rdRec (recL n2 n0 (5) (9) (2) (3) (4) (5) (2) (20)) h [n0] [] = .ok n2 := by
  rw [rec_eval Hn2 Hn0 (by omega) (by omega) (by omega) (by omega) (by omega) (by omega) (by omega) (by omega)]
  repeat rw [if_neg (by omega)]
theorem pas_dflt (Hb : 30 ≤ h ∧ h ≤ 500) (Hn0 : NameOk n0) (Hn1 : NameOk n1) (Hn2 : NameOk n2) (Hn3 : NameOk n3) : rdPas (pasL n3 n0 n1 (12) (h) (3) (4) (5)) h [n0] [n1] [] = .ok n3 := by
  rw [pas_eval Hn3 Hn0 Hn1 (by omega) (by omega) (by omega) (by omega) (by omega)]
  repeat rw [if_neg (by omega)]
theorem g0 (Hb : 30 ≤ h ∧ h ≤ 500) (Hn0 : NameOk n0) (Hn1 : NameOk n1) (Hn2 : NameOk n2) (Hn3 : NameOk n3) : ∀ m ∈ ([0, 1000000] : List Int), rdText [horL h, (satL n0 (m) (60) (50) (0) (1) (2) (2) (h)), (staL n1 (2) (4)), (recL n2 n0 (5) (9) (2) (3) (4) (5) (2) (20)), (pasL n3 n0 n1 (12) (h) (3) (4) (5))] Str.empty = .ok h := by
  intro m hm
  simp only [List.mem_cons, List.not_mem_nil, or_false] at hm
  have F : FourOk h n0 n1 n2 n3 (satL n0 (m) (60) (50) (0) (1) (2) (2) (h)) (staL n1 (2) (4)) (recL n2 n0 (5) (9) (2) (3) (4) (5) (2) (20)) (pasL n3 n0 n1 (12) (h) (3) (4) (5)) := ⟨by omega, rfl, rfl, rfl, rfl, rfl, rfl, rfl⟩
  refine F.all ?_ (sta_dflt Hb Hn0 Hn1 Hn2 Hn3) (rec_dflt Hb Hn0 Hn1 Hn2 Hn3) (pas_dflt Hb Hn0 Hn1 Hn2 Hn3)
  rw [sat_eval Hn0 (by omega) (by omega) (by omega) (by omega) (by omega) (by omega) (by omega) (by omega)]
  repeat rw [if_neg (by omega)]
theorem b0 (Hb : 30 ≤ h ∧ h ≤ 500) (Hn0 : NameOk n0) (Hn1 : NameOk n1) (Hn2 : NameOk n2) (Hn3 : NameOk n3) : ∀ m ∈ ([1000001] : List Int), rdText [horL h, (satL n0 (m) (60) (50) (0) (1) (2) (2) (h)), (staL n1 (2) (4)), (recL n2 n0 (5) (9) (2) (3) (4) (5) (2) (20)), (pasL n3 n0 n1 (12) (h) (3) (4) (5))] Str.empty = .error (2, colW (satL n0 (m) (60) (50) (0) (1) (2) (2) (h)) 3, oor) := by
  intro m hm
  simp only [List.mem_cons, List.not_mem_nil, or_false] at hm
  have F : FourOk h n0 n1 n2 n3 (satL n0 (m) (60) (50) (0) (1) (2) (2) (h)) (staL n1 (2) (4)) (recL n2 n0 (5) (9) (2) (3) (4) (5) (2) (20)) (pasL n3 n0 n1 (12) (h) (3) (4) (5)) := ⟨by omega, rfl, rfl, rfl, rfl, rfl, rfl, rfl⟩
  refine F.e1 (e := (3, oor))  ?_
  rw [sat_eval Hn0 (by omega) (by omega) (by omega) (by omega) (by omega) (by omega) (by omega) (by omega)]
  repeat rw [if_neg (by omega)]
  rw [if_pos (by omega)]
theorem g1 (Hb : 30 ≤ h ∧ h ≤ 500) (Hn0 : NameOk n0) (Hn1 : NameOk n1) (Hn2 : NameOk n2) (Hn3 : NameOk n3) : ∀ m ∈ ([50, 1000000] : List Int), rdText [horL h, (satL n0 (5) (m) (50) (0) (1) (2) (2) (h)), (staL n1 (2) (4)), (recL n2 n0 (5) (9) (2) (3) (4) (5) (2) (20)), (pasL n3 n0 n1 (12) (h) (3) (4) (5))] Str.empty = .ok h := by
  intro m hm
  simp only [List.mem_cons, List.not_mem_nil, or_false] at hm
  have F : FourOk h n0 n1 n2 n3 (satL n0 (5) (m) (50) (0) (1) (2) (2) (h)) (staL n1 (2) (4)) (recL n2 n0 (5) (9) (2) (3) (4) (5) (2) (20)) (pasL n3 n0 n1 (12) (h) (3) (4) (5)) := ⟨by omega, rfl, rfl, rfl, rfl, rfl, rfl, rfl⟩
  refine F.all ?_ (sta_dflt Hb Hn0 Hn1 Hn2 Hn3) (rec_dflt Hb Hn0 Hn1 Hn2 Hn3) (pas_dflt Hb Hn0 Hn1 Hn2 Hn3)
  rw [sat_eval Hn0 (by omega) (by omega) (by omega) (by omega) (by omega) (by omega) (by omega) (by omega)]
  repeat rw [if_neg (by omega)]
theorem b1 (Hb : 30 ≤ h ∧ h ≤ 500) (Hn0 : NameOk n0) (Hn1 : NameOk n1) (Hn2 : NameOk n2) (Hn3 : NameOk n3) : ∀ m ∈ ([1000001] : List Int), rdText [horL h, (satL n0 (5) (m) (50) (0) (1) (2) (2) (h)), (staL n1 (2) (4)), (recL n2 n0 (5) (9) (2) (3) (4) (5) (2) (20)), (pasL n3 n0 n1 (12) (h) (3) (4) (5))] Str.empty = .error (2, colW (satL n0 (5) (m) (50) (0) (1) (2) (2) (h)) 5, oor) := by
  intro m hm
  simp only [List.mem_cons, List.not_mem_nil, or_false] at hm
  have F : FourOk h n0 n1 n2 n3 (satL n0 (5) (m) (50) (0) (1) (2) (2) (h)) (staL n1 (2) (4)) (recL n2 n0 (5) (9) (2) (3) (4) (5) (2) (20)) (pasL n3 n0 n1 (12) (h) (3) (4) (5)) := ⟨by omega, rfl, rfl, rfl, rfl, rfl, rfl, rfl⟩
  refine F.e1 (e := (5, oor))  ?_
  rw [sat_eval Hn0 (by omega) (by omega) (by omega) (by omega) (by omega) (by omega) (by omega) (by omega)]
  repeat rw [if_neg (by omega)]
  rw [if_pos (by omega)]
theorem g2 (Hb : 30 ≤ h ∧ h ≤ 500) (Hn0 : NameOk n0) (Hn1 : NameOk n1) (Hn2 : NameOk n2) (Hn3 : NameOk n3) : ∀ m ∈ ([0, 60] : List Int), rdText [horL h, (satL n0 (5) (60) (m) (0) (1) (2) (2) (h)), (staL n1 (2) (4)), (recL n2 n0 (5) (9) (2) (3) (4) (5) (2) (20)), (pasL n3 n0 n1 (12) (h) (3) (4) (5))] Str.empty = .ok h := by
  intro m hm
  simp only [List.mem_cons, List.not_mem_nil, or_false] at hm
  have F : FourOk h n0 n1 n2 n3 (satL n0 (5) (60) (m) (0) (1) (2) (2) (h)) (staL n1 (2) (4)) (recL n2 n0 (5) (9) (2) (3) (4) (5) (2) (20)) (pasL n3 n0 n1 (12) (h) (3) (4) (5)) := ⟨by omega, rfl, rfl, rfl, rfl, rfl, rfl, rfl⟩
  refine F.all ?_ (sta_dflt Hb Hn0 Hn1 Hn2 Hn3) (rec_dflt Hb Hn0 Hn1 Hn2 Hn3) (pas_dflt Hb Hn0 Hn1 Hn2 Hn3)
  rw [sat_eval Hn0 (by omega) (by omega) (by omega) (by omega) (by omega) (by omega) (by omega) (by omega)]
  repeat rw [if_neg (by omega)]
theorem b2 (Hb : 30 ≤ h ∧ h ≤ 500) (Hn0 : NameOk n0) (Hn1 : NameOk n1) (Hn2 : NameOk n2) (Hn3 : NameOk n3) : ∀ m ∈ ([61] : List Int), rdText [horL h, (satL n0 (5) (60) (m) (0) (1) (2) (2) (h)), (staL n1 (2) (4)), (recL n2 n0 (5) (9) (2) (3) (4) (5) (2) (20)), (pasL n3 n0 n1 (12) (h) (3) (4) (5))] Str.empty = .error (2, colW (satL n0 (5) (60) (m) (0) (1) (2) (2) (h)) 7, oor) := by
  intro m hm
  simp only [List.mem_cons, List.not_mem_nil, or_false] at hm
  have F : FourOk h n0 n1 n2 n3 (satL n0 (5) (60) (m) (0) (1) (2) (2) (h)) (staL n1 (2) (4)) (recL n2 n0 (5) (9) (2) (3) (4) (5) (2) (20)) (pasL n3 n0 n1 (12) (h) (3) (4) (5)) := ⟨by omega, rfl, rfl, rfl, rfl, rfl, rfl, rfl⟩
  refine F.e1 (e := (7, oor))  ?_
  rw [sat_eval Hn0 (by omega) (by omega) (by omega) (by omega) (by omega) (by omega) (by omega) (by omega)]
  repeat rw [if_neg (by omega)]
  rw [if_pos (by omega)]
theorem g3 (Hb : 30 ≤ h ∧ h ≤ 500) (Hn0 : NameOk n0) (Hn1 : NameOk n1) (Hn2 : NameOk n2) (Hn3 : NameOk n3) : ∀ m ∈ ([0, 50] : List Int), rdText [horL h, (satL n0 (5) (60) (50) (m) (1) (2) (2) (h)), (staL n1 (2) (4)), (recL n2 n0 (5) (9) (2) (3) (4) (5) (2) (20)), (pasL n3 n0 n1 (12) (h) (3) (4) (5))] Str.empty = .ok h := by
  intro m hm
  simp only [List.mem_cons, List.not_mem_nil, or_false] at hm
  have F : FourOk h n0 n1 n2 n3 (satL n0 (5) (60) (50) (m) (1) (2) (2) (h)) (staL n1 (2) (4)) (recL n2 n0 (5) (9) (2) (3) (4) (5) (2) (20)) (pasL n3 n0 n1 (12) (h) (3) (4) (5)) := ⟨by omega, rfl, rfl, rfl, rfl, rfl, rfl, rfl⟩
  refine F.all ?_ (sta_dflt Hb Hn0 Hn1 Hn2 Hn3) (rec_dflt Hb Hn0 Hn1 Hn2 Hn3) (pas_dflt Hb Hn0 Hn1 Hn2 Hn3)
  rw [sat_eval Hn0 (by omega) (by omega) (by omega) (by omega) (by omega) (by omega) (by omega) (by omega)]
  repeat rw [if_neg (by omega)]
theorem b3 (Hb : 30 ≤ h ∧ h ≤ 500) (Hn0 : NameOk n0) (Hn1 : NameOk n1) (Hn2 : NameOk n2) (Hn3 : NameOk n3) : ∀ m ∈ ([51] : List Int), rdText [horL h, (satL n0 (5) (60) (50) (m) (1) (2) (2) (h)), (staL n1 (2) (4)), (recL n2 n0 (5) (9) (2) (3) (4) (5) (2) (20)), (pasL n3 n0 n1 (12) (h) (3) (4) (5))] Str.empty = .error (2, colW (satL n0 (5) (60) (50) (m) (1) (2) (2) (h)) 9, oor) := by
  intro m hm
  simp only [List.mem_cons, List.not_mem_nil, or_false] at hm
  have F : FourOk h n0 n1 n2 n3 (satL n0 (5) (60) (50) (m) (1) (2) (2) (h)) (staL n1 (2) (4)) (recL n2 n0 (5) (9) (2) (3) (4) (5) (2) (20)) (pasL n3 n0 n1 (12) (h) (3) (4) (5)) := ⟨by omega, rfl, rfl, rfl, rfl, rfl, rfl, rfl⟩
  refine F.e1 (e := (9, oor))  ?_
  rw [sat_eval Hn0 (by omega) (by omega) (by omega) (by omega) (by omega) (by omega) (by omega) (by omega)]
  repeat rw [if_neg (by omega)]
  rw [if_pos (by omega)]
theorem g4 (Hb : 30 ≤ h ∧ h ≤ 500) (Hn0 : NameOk n0) (Hn1 : NameOk n1) (Hn2 : NameOk n2) (Hn3 : NameOk n3) : ∀ m ∈ ([0, 1000] : List Int), rdText [horL h, (satL n0 (5) (60) (50) (0) (m) (2) (2) (h)), (staL n1 (2) (4)), (recL n2 n0 (5) (9) (2) (3) (4) (5) (2) (20)), (pasL n3 n0 n1 (12) (h) (3) (4) (5))] Str.empty = .ok h := by
  intro m hm
  simp only [List.mem_cons, List.not_mem_nil, or_false] at hm
  have F : FourOk h n0 n1 n2 n3 (satL n0 (5) (60) (50) (0) (m) (2) (2) (h)) (staL n1 (2) (4)) (recL n2 n0 (5) (9) (2) (3) (4) (5) (2) (20)) (pasL n3 n0 n1 (12) (h) (3) (4) (5)) := ⟨by omega, rfl, rfl, rfl, rfl, rfl, rfl, rfl⟩
  refine F.all ?_ (sta_dflt Hb Hn0 Hn1 Hn2 Hn3) (rec_dflt Hb Hn0 Hn1 Hn2 Hn3) (pas_dflt Hb Hn0 Hn1 Hn2 Hn3)
  rw [sat_eval Hn0 (by omega) (by omega) (by omega) (by omega) (by omega) (by omega) (by omega) (by omega)]
  repeat rw [if_neg (by omega)]
theorem b4 (Hb : 30 ≤ h ∧ h ≤ 500) (Hn0 : NameOk n0) (Hn1 : NameOk n1) (Hn2 : NameOk n2) (Hn3 : NameOk n3) : ∀ m ∈ ([1001] : List Int), rdText [horL h, (satL n0 (5) (60) (50) (0) (m) (2) (2) (h)), (staL n1 (2) (4)), (recL n2 n0 (5) (9) (2) (3) (4) (5) (2) (20)), (pasL n3 n0 n1 (12) (h) (3) (4) (5))] Str.empty = .error (2, colW (satL n0 (5) (60) (50) (0) (m) (2) (2) (h)) 11, oor) := by
  intro m hm
  simp only [List.mem_cons, List.not_mem_nil, or_false] at hm
  have F : FourOk h n0 n1 n2 n3 (satL n0 (5) (60) (50) (0) (m) (2) (2) (h)) (staL n1 (2) (4)) (recL n2 n0 (5) (9) (2) (3) (4) (5) (2) (20)) (pasL n3 n0 n1 (12) (h) (3) (4) (5)) := ⟨by omega, rfl, rfl, rfl, rfl, rfl, rfl, rfl⟩
  refine F.e1 (e := (11, oor))  ?_
  rw [sat_eval Hn0 (by omega) (by omega) (by omega) (by omega) (by omega) (by omega) (by omega) (by omega)]
  repeat rw [if_neg (by omega)]
  rw [if_pos (by omega)]
theorem g5 (Hb : 30 ≤ h ∧ h ≤ 500) (Hn0 : NameOk n0) (Hn1 : NameOk n1) (Hn2 : NameOk n2) (Hn3 : NameOk n3) : ∀ m ∈ ([0, 60] : List Int), rdText [horL h, (satL n0 (5) (60) (50) (0) (1) (m) (2) (h)), (staL n1 (2) (4)), (recL n2 n0 (5) (9) (2) (3) (4) (5) (2) (20)), (pasL n3 n0 n1 (12) (h) (3) (4) (5))] Str.empty = .ok h := by
  intro m hm
  simp only [List.mem_cons, List.not_mem_nil, or_false] at hm
  have F : FourOk h n0 n1 n2 n3 (satL n0 (5) (60) (50) (0) (1) (m) (2) (h)) (staL n1 (2) (4)) (recL n2 n0 (5) (9) (2) (3) (4) (5) (2) (20)) (pasL n3 n0 n1 (12) (h) (3) (4) (5)) := ⟨by omega, rfl, rfl, rfl, rfl, rfl, rfl, rfl⟩
  refine F.all ?_ (sta_dflt Hb Hn0 Hn1 Hn2 Hn3) (rec_dflt Hb Hn0 Hn1 Hn2 Hn3) (pas_dflt Hb Hn0 Hn1 Hn2 Hn3)
  rw [sat_eval Hn0 (by omega) (by omega) (by omega) (by omega) (by omega) (by omega) (by omega) (by omega)]
  repeat rw [if_neg (by omega)]
theorem b5 (Hb : 30 ≤ h ∧ h ≤ 500) (Hn0 : NameOk n0) (Hn1 : NameOk n1) (Hn2 : NameOk n2) (Hn3 : NameOk n3) : ∀ m ∈ ([61] : List Int), rdText [horL h, (satL n0 (5) (60) (50) (0) (1) (m) (2) (h)), (staL n1 (2) (4)), (recL n2 n0 (5) (9) (2) (3) (4) (5) (2) (20)), (pasL n3 n0 n1 (12) (h) (3) (4) (5))] Str.empty = .error (2, colW (satL n0 (5) (60) (50) (0) (1) (m) (2) (h)) 13, oor) := by
  intro m hm
  simp only [List.mem_cons, List.not_mem_nil, or_false] at hm
  have F : FourOk h n0 n1 n2 n3 (satL n0 (5) (60) (50) (0) (1) (m) (2) (h)) (staL n1 (2) (4)) (recL n2 n0 (5) (9) (2) (3) (4) (5) (2) (20)) (pasL n3 n0 n1 (12) (h) (3) (4) (5)) := ⟨by omega, rfl, rfl, rfl, rfl, rfl, rfl, rfl⟩
  refine F.e1 (e := (13, oor))  ?_
  rw [sat_eval Hn0 (by omega) (by omega) (by omega) (by omega) (by omega) (by omega) (by omega) (by omega)]
  repeat rw [if_neg (by omega)]
  rw [if_pos (by omega)]
theorem g6 (Hb : 30 ≤ h ∧ h ≤ 500) (Hn0 : NameOk n0) (Hn1 : NameOk n1) (Hn2 : NameOk n2) (Hn3 : NameOk n3) : ∀ m ∈ ([0, h - 1] : List Int), rdText [horL h, (satL n0 (5) (60) (50) (0) (1) (2) (m) (h)), (staL n1 (2) (4)), (recL n2 n0 (5) (9) (2) (3) (4) (5) (2) (20)), (pasL n3 n0 n1 (12) (h) (3) (4) (5))] Str.empty = .ok h := by
  intro m hm
  simp only [List.mem_cons, List.not_mem_nil, or_false] at hm
  have F : FourOk h n0 n1 n2 n3 (satL n0 (5) (60) (50) (0) (1) (2) (m) (h)) (staL n1 (2) (4)) (recL n2 n0 (5) (9) (2) (3) (4) (5) (2) (20)) (pasL n3 n0 n1 (12) (h) (3) (4) (5)) := ⟨by omega, rfl, rfl, rfl, rfl, rfl, rfl, rfl⟩
  refine F.all ?_ (sta_dflt Hb Hn0 Hn1 Hn2 Hn3) (rec_dflt Hb Hn0 Hn1 Hn2 Hn3) (pas_dflt Hb Hn0 Hn1 Hn2 Hn3)
  rw [sat_eval Hn0 (by omega) (by omega) (by omega) (by omega) (by omega) (by omega) (by omega) (by omega)]
  repeat rw [if_neg (by omega)]
theorem b6 (Hb : 30 ≤ h ∧ h ≤ 500) (Hn0 : NameOk n0) (Hn1 : NameOk n1) (Hn2 : NameOk n2) (Hn3 : NameOk n3) : ∀ m ∈ ([h] : List Int), rdText [horL h, (satL n0 (5) (60) (50) (0) (1) (2) (m) (h)), (staL n1 (2) (4)), (recL n2 n0 (5) (9) (2) (3) (4) (5) (2) (20)), (pasL n3 n0 n1 (12) (h) (3) (4) (5))] Str.empty = .error (2, colW (satL n0 (5) (60) (50) (0) (1) (2) (m) (h)) 15, oor) := by
  intro m hm
  simp only [List.mem_cons, List.not_mem_nil, or_false] at hm
  have F : FourOk h n0 n1 n2 n3 (satL n0 (5) (60) (50) (0) (1) (2) (m) (h)) (staL n1 (2) (4)) (recL n2 n0 (5) (9) (2) (3) (4) (5) (2) (20)) (pasL n3 n0 n1 (12) (h) (3) (4) (5)) := ⟨by omega, rfl, rfl, rfl, rfl, rfl, rfl, rfl⟩
  refine F.e1 (e := (15, oor))  ?_
  rw [sat_eval Hn0 (by omega) (by omega) (by omega) (by omega) (by omega) (by omega) (by omega) (by omega)]
  repeat rw [if_neg (by omega)]
  rw [if_pos (by omega)]
theorem g7 (Hb : 30 ≤ h ∧ h ≤ 500) (Hn0 : NameOk n0) (Hn1 : NameOk n1) (Hn2 : NameOk n2) (Hn3 : NameOk n3) : ∀ m ∈ ([3, h] : List Int), rdText [horL h, (satL n0 (5) (60) (50) (0) (1) (2) (2) (m)), (staL n1 (2) (4)), (recL n2 n0 (5) (9) (2) (3) (4) (5) (2) (20)), (pasL n3 n0 n1 (12) (h) (3) (4) (5))] Str.empty = .ok h := by
  intro m hm
  simp only [List.mem_cons, List.not_mem_nil, or_false] at hm
  have F : FourOk h n0 n1 n2 n3 (satL n0 (5) (60) (50) (0) (1) (2) (2) (m)) (staL n1 (2) (4)) (recL n2 n0 (5) (9) (2) (3) (4) (5) (2) (20)) (pasL n3 n0 n1 (12) (h) (3) (4) (5)) := ⟨by omega, rfl, rfl, rfl, rfl, rfl, rfl, rfl⟩
  refine F.all ?_ (sta_dflt Hb Hn0 Hn1 Hn2 Hn3) (rec_dflt Hb Hn0 Hn1 Hn2 Hn3) (pas_dflt Hb Hn0 Hn1 Hn2 Hn3)
  rw [sat_eval Hn0 (by omega) (by omega) (by omega) (by omega) (by omega) (by omega) (by omega) (by omega)]
  repeat rw [if_neg (by omega)]
theorem b7 (Hb : 30 ≤ h ∧ h ≤ 500) (Hn0 : NameOk n0) (Hn1 : NameOk n1) (Hn2 : NameOk n2) (Hn3 : NameOk n3) : ∀ m ∈ ([2, h + 1] : List Int), rdText [horL h, (satL n0 (5) (60) (50) (0) (1) (2) (2) (m)), (staL n1 (2) (4)), (recL n2 n0 (5) (9) (2) (3) (4) (5) (2) (20)), (pasL n3 n0 n1 (12) (h) (3) (4) (5))] Str.empty = .error (2, colW (satL n0 (5) (60) (50) (0) (1) (2) (2) (m)) 16, oor) := by
  intro m hm
  simp only [List.mem_cons, List.not_mem_nil, or_false] at hm
  have F : FourOk h n0 n1 n2 n3 (satL n0 (5) (60) (50) (0) (1) (2) (2) (m)) (staL n1 (2) (4)) (recL n2 n0 (5) (9) (2) (3) (4) (5) (2) (20)) (pasL n3 n0 n1 (12) (h) (3) (4) (5)) := ⟨by omega, rfl, rfl, rfl, rfl, rfl, rfl, rfl⟩
  refine F.e1 (e := (16, oor))  ?_
  rw [sat_eval Hn0 (by omega) (by omega) (by omega) (by omega) (by omega) (by omega) (by omega) (by omega)]
  repeat rw [if_neg (by omega)]
  rw [if_pos (by omega)]
theorem g8 (Hb : 30 ≤ h ∧ h ≤ 500) (Hn0 : NameOk n0) (Hn1 : NameOk n1) (Hn2 : NameOk n2) (Hn3 : NameOk n3) : ∀ m ∈ ([1, 3] : List Int), rdText [horL h, (satL n0 (5) (60) (50) (0) (1) (2) (2) (h)), (staL n1 (m) (4)), (recL n2 n0 (5) (9) (2) (3) (4) (5) (2) (20)), (pasL n3 n0 n1 (12) (h) (3) (4) (5))] Str.empty = .ok h := by
  intro m hm
  simp only [List.mem_cons, List.not_mem_nil, or_false] at hm
  have F : FourOk h n0 n1 n2 n3 (satL n0 (5) (60) (50) (0) (1) (2) (2) (h)) (staL n1 (m) (4)) (recL n2 n0 (5) (9) (2) (3) (4) (5) (2) (20)) (pasL n3 n0 n1 (12) (h) (3) (4) (5)) := ⟨by omega, rfl, rfl, rfl, rfl, rfl, rfl, rfl⟩
  refine F.all (sat_dflt Hb Hn0 Hn1 Hn2 Hn3) ?_ (rec_dflt Hb Hn0 Hn1 Hn2 Hn3) (pas_dflt Hb Hn0 Hn1 Hn2 Hn3)
  rw [sta_eval Hn1 (by omega) (by omega)]
  repeat rw [if_neg (by omega)]
theorem b8 (Hb : 30 ≤ h ∧ h ≤ 500) (Hn0 : NameOk n0) (Hn1 : NameOk n1) (Hn2 : NameOk n2) (Hn3 : NameOk n3) : ∀ m ∈ ([0, 4] : List Int), rdText [horL h, (satL n0 (5) (60) (50) (0) (1) (2) (2) (h)), (staL n1 (m) (4)), (recL n2 n0 (5) (9) (2) (3) (4) (5) (2) (20)), (pasL n3 n0 n1 (12) (h) (3) (4) (5))] Str.empty = .error (3, colW (staL n1 (m) (4)) 3, oor) := by
  intro m hm
  simp only [List.mem_cons, List.not_mem_nil, or_false] at hm
  have F : FourOk h n0 n1 n2 n3 (satL n0 (5) (60) (50) (0) (1) (2) (2) (h)) (staL n1 (m) (4)) (recL n2 n0 (5) (9) (2) (3) (4) (5) (2) (20)) (pasL n3 n0 n1 (12) (h) (3) (4) (5)) := ⟨by omega, rfl, rfl, rfl, rfl, rfl, rfl, rfl⟩
  refine F.e2 (e := (3, oor)) (sat_dflt Hb Hn0 Hn1 Hn2 Hn3) ?_
  rw [sta_eval Hn1 (by omega) (by omega)]
  repeat rw [if_neg (by omega)]
  rw [if_pos (by omega)]
theorem g9 (Hb : 30 ≤ h ∧ h ≤ 500) (Hn0 : NameOk n0) (Hn1 : NameOk n1) (Hn2 : NameOk n2) (Hn3 : NameOk n3) : ∀ m ∈ ([0, 60] : List Int), rdText [horL h, (satL n0 (5) (60) (50) (0) (1) (2) (2) (h)), (staL n1 (2) (m)), (recL n2 n0 (5) (9) (2) (3) (4) (5) (2) (20)), (pasL n3 n0 n1 (12) (h) (3) (4) (5))] Str.empty = .ok h := by
  intro m hm
  simp only [List.mem_cons, List.not_mem_nil, or_false] at hm
  have F : FourOk h n0 n1 n2 n3 (satL n0 (5) (60) (50) (0) (1) (2) (2) (h)) (staL n1 (2) (m)) (recL n2 n0 (5) (9) (2) (3) (4) (5) (2) (20)) (pasL n3 n0 n1 (12) (h) (3) (4) (5)) := ⟨by omega, rfl, rfl, rfl, rfl, rfl, rfl, rfl⟩
  refine F.all (sat_dflt Hb Hn0 Hn1 Hn2 Hn3) ?_ (rec_dflt Hb Hn0 Hn1 Hn2 Hn3) (pas_dflt Hb Hn0 Hn1 Hn2 Hn3)
  rw [sta_eval Hn1 (by omega) (by omega)]
  repeat rw [if_neg (by omega)]
theorem g10 (Hb : 30 ≤ h ∧ h ≤ 500) (Hn0 : NameOk n0) (Hn1 : NameOk n1) (Hn2 : NameOk n2) (Hn3 : NameOk n3) : ∀ m ∈ ([0, 9] : List Int), rdText [horL h, (satL n0 (5) (60) (50) (0) (1) (2) (2) (h)), (staL n1 (2) (4)), (recL n2 n0 (m) (9) (2) (3) (4) (5) (2) (20)), (pasL n3 n0 n1 (12) (h) (3) (4) (5))] Str.empty = .ok h := by
  intro m hm
  simp only [List.mem_cons, List.not_mem_nil, or_false] at hm
  have F : FourOk h n0 n1 n2 n3 (satL n0 (5) (60) (50) (0) (1) (2) (2) (h)) (staL n1 (2) (4)) (recL n2 n0 (m) (9) (2) (3) (4) (5) (2) (20)) (pasL n3 n0 n1 (12) (h) (3) (4) (5)) := ⟨by omega, rfl, rfl, rfl, rfl, rfl, rfl, rfl⟩
  refine F.all (sat_dflt Hb Hn0 Hn1 Hn2 Hn3) (sta_dflt Hb Hn0 Hn1 Hn2 Hn3) ?_ (pas_dflt Hb Hn0 Hn1 Hn2 Hn3)
  rw [rec_eval Hn2 Hn0 (by omega) (by omega) (by omega) (by omega) (by omega) (by omega) (by omega) (by omega)]
  repeat rw [if_neg (by omega)]
theorem g11 (Hb : 30 ≤ h ∧ h ≤ 500) (Hn0 : NameOk n0) (Hn1 : NameOk n1) (Hn2 : NameOk n2) (Hn3 : NameOk n3) : ∀ m ∈ ([5, 25] : List Int), rdText [horL h, (satL n0 (5) (60) (50) (0) (1) (2) (2) (h)), (staL n1 (2) (4)), (recL n2 n0 (5) (m) (2) (3) (4) (5) (2) (20)), (pasL n3 n0 n1 (12) (h) (3) (4) (5))] Str.empty = .ok h := by
  intro m hm
  simp only [List.mem_cons, List.not_mem_nil, or_false] at hm
  have F : FourOk h n0 n1 n2 n3 (satL n0 (5) (60) (50) (0) (1) (2) (2) (h)) (staL n1 (2) (4)) (recL n2 n0 (5) (m) (2) (3) (4) (5) (2) (20)) (pasL n3 n0 n1 (12) (h) (3) (4) (5)) := ⟨by omega, rfl, rfl, rfl, rfl, rfl, rfl, rfl⟩
  refine F.all (sat_dflt Hb Hn0 Hn1 Hn2 Hn3) (sta_dflt Hb Hn0 Hn1 Hn2 Hn3) ?_ (pas_dflt Hb Hn0 Hn1 Hn2 Hn3)
  rw [rec_eval Hn2 Hn0 (by omega) (by omega) (by omega) (by omega) (by omega) (by omega) (by omega) (by omega)]
  repeat rw [if_neg (by omega)]
theorem g12 (Hb : 30 ≤ h ∧ h ≤ 500) (Hn0 : NameOk n0) (Hn1 : NameOk n1) (Hn2 : NameOk n2) (Hn3 : NameOk n3) : ∀ m ∈ ([1, h - 9] : List Int), rdText [horL h, (satL n0 (5) (60) (50) (0) (1) (2) (2) (h)), (staL n1 (2) (4)), (recL n2 n0 (5) (9) (m) (3) (4) (5) (2) (20)), (pasL n3 n0 n1 (12) (h) (3) (4) (5))] Str.empty = .ok h := by
  intro m hm
  simp only [List.mem_cons, List.not_mem_nil, or_false] at hm
  have F : FourOk h n0 n1 n2 n3 (satL n0 (5) (60) (50) (0) (1) (2) (2) (h)) (staL n1 (2) (4)) (recL n2 n0 (5) (9) (m) (3) (4) (5) (2) (20)) (pasL n3 n0 n1 (12) (h) (3) (4) (5)) := ⟨by omega, rfl, rfl, rfl, rfl, rfl, rfl, rfl⟩
  refine F.all (sat_dflt Hb Hn0 Hn1 Hn2 Hn3) (sta_dflt Hb Hn0 Hn1 Hn2 Hn3) ?_ (pas_dflt Hb Hn0 Hn1 Hn2 Hn3)
  rw [rec_eval Hn2 Hn0 (by omega) (by omega) (by omega) (by omega) (by omega) (by omega) (by omega) (by omega)]
  repeat rw [if_neg (by omega)]
end
end DP
namespace DP
open PySem PySem.Spec PyProof.Rows L2
/-- words without blanks and newlines -/
def WdX (w : Str) : Prop := 32 ∉ tl w ∧ 10 ∉ tl w ∧ (tl w).length ≤ 40
theorem WdOk.x {w : Str} (h : WdOk w) : WdX w := ⟨h.2.1, h.2.2.1, Nat.le_trans h.2.2.2 (by decide)⟩
theorem row_freeX {ws : List Str} (h : ∀ w ∈ ws, WdX w) : 10 ∉ tl (row ws) := by
  unfold row
  rw [show tl (Str.join sp ws) = TL.joinL (tl sp) (ws.map tl) from TL.tl_join sp ws]
  refine joinL_free (by rw [tl_sp]; decide) _ fun p hp => ?_
  obtain ⟨w, hw, rfl⟩ := List.mem_map.mp hp
  exact (h w hw).2.1
theorem row_lenX {ws : List Str} (h : ∀ w ∈ ws, WdX w) : (row ws).length ≤ ws.length * 41 := by
  rw [TL.len_tl]
  unfold row
  rw [show TL.tl (Str.join sp ws) = TL.joinL (tl sp) (ws.map tl) from TL.tl_join sp ws]
  have := joinL_len (m := 40) (S := tl sp) (ws.map tl) fun p hp => by
    obtain ⟨w, hw, rfl⟩ := List.mem_map.mp hp
    exact (h w hw).2.2
  rw [List.length_map, tl_sp] at this
  rw [tl_sp]
  exact this
theorem row_splitX {ws : List Str} (hn : ws ≠ []) (h : ∀ w ∈ ws, WdX w) : Txt.split (row ws) sp = ws := by
  have e := TL.split_join (y := sp) (s := 32) (S := []) tl_sp (by decide +kernel) hn (fun p hp => (h p hp).1)
  rw [TL.join_eq] at e
  exact e
structure LnW (l : List Str) : Prop where
  ne : l ≠ []
  wd : ∀ w ∈ l, WdX w
  sz : l.length ≤ 400
theorem LnW.ok {l : List Str} (h : LnW l) : LnOk l := ⟨h.ne, row_splitX h.ne h.wd, Nat.le_trans (row_lenX h.wd) (by have := h.sz; omega), fun w hw => by rw [TL.len_tl]; exact (h.wd w hw).2.2, by have := h.sz; omega⟩
theorem split_glueX {lns : List (List Str)} (h : ∀ l ∈ lns, LnW l) : Txt.split (glue (lns.map row)) nl = lns.map row ++ [Str.empty] := glue_split fun r hr => by
  obtain ⟨l, hl, rfl⟩ := List.mem_map.mp hr
  exact row_freeX (h l hl).wd
theorem glue_lenX {lns : List (List Str)} (h : ∀ l ∈ lns, LnW l) (hn : lns.length ≤ 40) : (glue (lns.map row)).length ≤ 1000000 := by
  have h1 := glue_len (rows := lns.map row) (m := 16400) fun r hr => by
    obtain ⟨l, hl, rfl⟩ := List.mem_map.mp hr
    have h2 := row_lenX (h l hl).wd
    have h3 := (h l hl).sz
    omega
  rw [List.length_map] at h1
  have h3 : (lns.length + 1) * (16400 + 1) ≤ 41 * 16401 := Nat.mul_le_mul_right _ (by omega)
  show (glue _).length ≤ _
  omega
theorem fit_bigX {n : Nat} (h : n ≤ 17256) : n ≤ sizeLine := Nat.le_trans h (by unfold sizeLine; decide)
theorem len_addX {x y : Str} {a b : Nat} (h : x.length ≤ a) (k : y.length ≤ b) : (x ++ y).length ≤ a + b := by rw [len_app]; omega
end DP
namespace DP
open PySem PySem.Spec PyProof.Rows L2
theorem lit_wd {w : Str} (h : (!((tl w).contains 32) && !((tl w).contains 10) && decide ((tl w).length ≤ 40)) = true) : WdX w := by
  simp only [Bool.and_eq_true, Bool.not_eq_true', List.contains_eq_mem, decide_eq_false_iff_not, decide_eq_true_eq] at h
  exact ⟨h.1.1, h.1.2, h.2⟩
end DP
namespace DP
open PySem PySem.Spec PyProof.Rows L2
theorem pi_listK {X : Cx} {tg l : Expr} {tl : TE} {K : PySem.W.Frag} (hk : X.K = K) (hl : PE X l tl) : PI X tg l (iList K tl) := by
  subst hk
  exact pi_list hl
def tJoin (K : PySem.W.Frag) (to te : TE) : TE := tM1 (fun x xs H Q => ∃ a p, ∃ ys : List Str, x = .str a ∧ xs = [.ref p] ∧ (SqL K H p (ys.map V.str) ∨ SqT K H p (ys.map V.str)) ∧ (ys.map (·.length)).sum + ys.length * a.length ≤ 16777216 ∧ Q (.str (Txt.join a ys)) H) to te
theorem pe_joinK {X : Cx} {K : PySem.W.Frag} {o e : Expr} {to te : TE} {apos pos : Pos} (hk : X.K = K) (ho : PE X o to) (he : PE X e te) (hs : starEach [e] X.env = [(false, eval e X.env)] := by rfl) (hbase : attributeBase o "join" X.env (eval o X.env) = eval o X.env := by rfl) (hline : (apos.endLine == pos.line) = true := by rfl) :
    PE X (.Call (.Attribute o "join" apos) [e] [] pos) (tJoin K to te) := by
  subst hk
  exact pe_join ho he hs hbase hline
end DP
namespace DP
open PySem PySem.Spec PyProof.Rows L2
section
variable {P : Program} {w : World} {K : PySem.W.Frag} {mg : Str → Option Value} {base : Heap} {CL CS CT CR CP CW aS aR fS fT fR fP : Addr}
theorem prog_parse (T : TxtW K mg CL CS CT CR CP CW aS aR fS fT fR fP) (F : PF K mg CL CS CT CR CP CW) : SDef P w K mg base CX0 7 CW "parse" ["text"] (spParse K CS CT CR CP CW) := by
  have L := T.L
  have B := L.B
  have D_init : MDef P w K mg base CX0 1 CL "__init__" _ [] _ := d_Line_init L F.p_Line___init__
  have D_has_more : MDef P w K mg base CX0 1 CL "has_more" _ [] _ := d_has_more L F.p_Line_has_more
  have D_due : MDef P w K mg base CX0 2 CL "due" _ [] _ := d_due L D_has_more F.p_Line_due
  have D_step : MDef P w K mg base CX0 1 CL "step" _ [] _ := d_step L F.p_Line_step
  have D_choice : MDef P w K mg base CX0 3 CL "read_choice" _ [] _ := d_read_choice L D_due D_step F.p_Line_read_choice
  have D_isnum : DefOk P w K mg base CX0 1 "is_number" _ _ := d_is_number L F.p_is_number
  have D_number : MDef P w K mg base CX0 3 CL "read_number" _ [] _ := d_read_number L D_isnum D_due D_step F.p_Line_read_number
  have D_field : MDef P w K mg base CX0 4 CL "read_field" _ [] _ := d_read_field L D_choice D_number F.p_Line_read_field
  have D_isname : DefOk P w K mg base CX0 1 "is_name" _ _ := d_is_name L F.p_is_name
  have D_due_name : MDef P w K mg base CX0 3 CL "due_name" _ [] _ := d_due_name L D_isname D_due F.p_Line_due_name
  have D_new : MDef P w K mg base CX0 4 CL "read_new_name" _ [] _ := d_read_new_name L D_due_name D_step F.p_Line_read_new_name
  have D_known : MDef P w K mg base CX0 4 CL "read_known_name" _ _ _ := d_read_known_name L D_due_name D_step F.p_Line_read_known_name
  have D_finish : MDef P w K mg base CX0 3 CL "finish" _ [] _ := d_finish L D_has_more F.p_Line_finish
  have D_lines : DefOk P w K mg base CX0 3 "lines_of" _ _ := d_lines_of L D_init F.p_lines_of
  have D_names : DefOk P w K mg base CX0 1 "names_of" _ _ := d_names_of B F.p_names_of
  have D_light : DefOk P w K mg base CX0 4 "read_light" _ _ := d_read_light T D_has_more D_number F.p_read_light
  have D1 : DefOk P w K mg base CX0 5 "read_satellite" _ _ := d_read_satellite T D_names D_new D_field D_choice D_light (dI_Satellite T F.p_Satellite___init__) F.p_read_satellite
  have D2 : DefOk P w K mg base CX0 5 "read_station" _ _ := d_read_station T D_names D_new D_field (dI_Station T F.p_Station___init__) F.p_read_station
  have D3 : DefOk P w K mg base CX0 5 "read_recording" _ _ := d_read_recording T D_names D_new D_field D_choice D_known (dI_Recording T F.p_Recording___init__) F.p_read_recording
  have D4 : DefOk P w K mg base CX0 5 "read_pass" _ _ := d_read_pass T D_names D_new D_field D_choice D_known (dI_Pass T F.p_Pass___init__) F.p_read_pass
  have D_most : DefOk P w K mg base CX0 1 "most_things" _ _ := d_most_things T F.p_most_things
  have D_sort : DefOk P w K mg base CX0 3 "read_sort" _ _ := d_read_sort T D_due D_step D_most F.p_read_sort
  have D_things : DefOk P w K mg base CX0 6 "read_things" _ _ := d_read_things T D_sort D1 D2 D3 D4
    (at_ne F.p_read_station F.p_read_satellite T.r_station T.r_satellite (by decide)) (at_ne F.p_read_recording F.p_read_satellite T.r_recording T.r_satellite (by decide)) (at_ne F.p_read_recording F.p_read_station T.r_recording T.r_station (by decide))
    (at_ne F.p_read_pass F.p_read_satellite T.r_pass T.r_satellite (by decide)) (at_ne F.p_read_pass F.p_read_station T.r_pass T.r_station (by decide)) (at_ne F.p_read_pass F.p_read_recording T.r_pass T.r_recording (by decide)) D_finish F.p_read_things
  exact d_parse T D_lines D_field D_finish D_things (dI_World T F.p_World___init__) F.p_World_parse
end
end DP
namespace DP
open PySem PySem.Spec PyProof.Rows L2
section
variable {P : Program} {w : World} {K : PySem.W.Frag} {mg : Str → Option Value} {base : Heap}
def spWordL : Sp := fun vs H Q _ => ∃ (st : Addr) (i : Nat), vs = [.ref st, .int (i : Int)] ∧ i < 10 ∧ Strm H st ∧ ∀ u H', Same H H' → WordAt i u → u.length ≤ 10 → Q (.str u) H'
theorem d_wordL (B : Bt mg) (D_law_next : DefOk P w K mg base CX0 1 "_law_next" ["_law_stream_here", "_law_many"] spNext) (A : At K mg "_law_word" s__law_word ["_law_stream_here", "_law_index"]) : DefOk P w K mg base CX0 2 "_law_word" ["_law_stream_here", "_law_index"] spWordL := by
  refine A.ok sc__law_word (fun vs H Q E h => ?_) (fun f cdv A outer s H vs Q E hr h => ?_)
  · obtain ⟨st, i, rfl, _⟩ := h
    rfl
  obtain ⟨st, i, rfl, hi, hst, q⟩ := h
  refine ⟨_, pss_cons (ps_set (i := 2) sc__law_word.nd rfl (Or.inr rfl) pe_str)
  (pss_cons (ps_set (i := 3) sc__law_word.nd rfl (Or.inl rfl) (pe_f D_law_next (hr.mono (by omega)) pass0 (pa_cons (pv 0) (pa_cons pe_int pa_nil))))
  (pss_cons (ps_set (i := 4) sc__law_word.nd rfl (Or.inl rfl) (pe_join pe_str (pe_lc (own := [("_law_k", 7)])  rfl sc__law_word.nd (pi_range1 (by rfl) B.range (pa_cons (pv 3) pa_nil)) (blkOk_by (own := [("_law_k", 7)]) (N := ["_law_stream_here", "_law_index", "_law_letters", "_law_size", "_law_text", "_law_place", "_law_word_here", "_law_k"]) (sc := defScope s__law_word) (by decide +kernel)) (fun _ _ _ _ _ => pg_name (i := 7) sc__law_word.nd rfl (Or.inl rfl)) (fun _ _ _ _ _ => pts_nil) (fun _ _ _ _ _ => (pe_ix ix_str (pv 2) (pe_f D_law_next (hr.mono (by omega)) pass0 (pa_cons (pv 0) (pa_cons pe_int pa_nil))) (fun _ _ => rfl))))))
  (pss_cons (ps_set (i := 5) sc__law_word.nd rfl (Or.inl rfl) (pe_f D_law_next (hr.mono (by omega)) pass0 (pa_cons (pv 0) (pa_cons (pe_op op_add (pv 3) pe_int) pa_nil))))
  (pss_cons (ps_set (i := 6) sc__law_word.nd rfl (Or.inl rfl) (pe_op op_add_str (pe_op op_add_str (pe_slice sl_str (pv 4) po_none (po_some (pv 5))) (pe_ix ix_str pe_str (pv 1) (fun _ _ => rfl))) (pe_slice sl_str (pv 4) (po_some (pv 5)) po_none)))
  (pss_cons (ps_if (pt_cmpR op_in_sign (pe_ix ix_str (pv 6) pe_int (fun _ _ => rfl)) (pe_slice sl_str (pv 2) (po_some pe_int) po_none) (by rfl))
      (pss_one (ps_set (i := 6) sc__law_word.nd rfl (Or.inl rfl) (pe_op op_add_str pe_str (pv 6))))
      (pss_nil))
  (pss_one (ps_ret (pv 6))))))))
    , ?_⟩
  refine ⟨_, rfl, st, 5, rfl, by decide, hst, fun sz s0 s1 => ?_⟩
  refine ⟨⟨_, rfl⟩, _, rfl, sz, rfl, by omega, by omega, fun D hD => ?_⟩
  refine lc_range (lo := 0) (n := sz.toNat) (fun k H' => ∃ cs : List Nat, cs.length = k ∧ (∀ c ∈ cs, isLo c = true) ∧ H' D = some (.lst ((cs.map fun c => (⟨#[c]⟩ : Str)).map V.str)) ∧ Same H H') ⟨[], rfl, fun _ z => absurd z List.not_mem_nil, upd_same, same_new hD _⟩ (fun k H1 hk hI => ?_) (fun H1 hI => ?_)
  · obtain ⟨cs, hc, hlo, hDD, hs⟩ := hI
    refine ⟨rfl, _, rfl, _, rfl, st, 36, rfl, by decide, hst.same hs, fun v v0 v1 => ?_⟩
    obtain ⟨c, hc1, hc2⟩ := lo36_at v0 v1
    refine ⟨_, _, c, rfl, rfl, by decide +kernel, hc1, _, hDD, by rw [List.length_map, List.length_map, hc]; exact small1000 (by omega), cs ++ [c], by rw [List.length_append, hc, List.length_singleton], ?_, by rw [upd_same, List.map_append, List.map_append]; rfl, same_at hD hs _⟩
    intro x hx
    rcases List.mem_append.mp hx with hx | hx
    · exact hlo x hx
    · rw [List.mem_singleton.mp hx]; exact hc2
  · obtain ⟨cs, hc, hlo, hDD, hs⟩ := hI
    have hl4 : cs.length ≤ 4 := by omega
    refine ⟨Str.ofString "", D, cs.map fun c => (⟨#[c]⟩ : Str), rfl, rfl, .inl (SqL.of hDD), ?_, ?_⟩
    · have e : ((cs.map fun c => (⟨#[c]⟩ : Str)).map (·.length)).sum = cs.length := by
        rw [List.map_map]
        clear hDD hc hl4 hlo
        induction cs with
        | nil => rfl
        | cons a r ih =>
          rw [List.map_cons, List.sum_cons, ih, List.length_cons]
          show 1 + r.length = _
          omega
      have e2 : (Str.ofString "" : Str).length = 0 := by decide +kernel
      rw [e, e2, Nat.mul_zero]
      omega
    obtain ⟨tx, htx⟩ : ∃ tx, Txt.join (Str.ofString "") (cs.map fun c => (⟨#[c]⟩ : Str)) = tx := ⟨_, rfl⟩
    have etx : tl tx = cs := by rw [← htx]; exact join_ones cs
    rw [htx]
    have hst1 := hst.same hs
    have ltx : tx.length ≤ 4 := by
      rw [TL.len_tl, show TL.tl tx = tl tx from rfl, etx]
      exact hl4
    refine ⟨_, rfl, _, rfl, _, _, rfl, rfl, st, sz + 1, rfl, by omega, hst1, fun pl p0 p1 => ?_⟩
    have lpre := cutS_length tx none (some pl)
    have lsuf := cutS_length tx (some pl) none
    have lcap : (⟨#[65 + i]⟩ : Str).length = 1 := rfl
    have lapp : (cutS tx none (some pl) ++ (⟨#[65 + i]⟩ : Str)).length = (cutS tx none (some pl)).length + 1 := by
      rw [TL.len_tl, TL.tl_append, List.length_append, ← TL.len_tl, ← TL.len_tl, lcap]
    refine ⟨_, rfl, _, rfl, pl, rfl, tx, rfl, Nat.le_trans ltx (by decide), _, rfl, _, _, 65 + i, rfl, rfl, by decide +kernel, cap_at hi, _, _, rfl, rfl, ?_, ?_⟩
    · rw [lcap]; exact Nat.le_trans (Nat.add_le_add_right (Nat.le_trans lpre ltx) 1) (by decide)
    refine ⟨_, rfl, _, rfl, pl, rfl, tx, rfl, Nat.le_trans ltx (by decide), _, _, rfl, rfl, ?_, ?_⟩
    · rw [lapp]
      exact Nat.le_trans (Nat.add_le_add (Nat.add_le_add_right (Nat.le_trans lpre ltx) 1) (Nat.le_trans lsuf ltx)) (by decide)
    obtain ⟨z, hz⟩ : ∃ z, cutS tx none (some pl) ++ (⟨#[65 + i]⟩ : Str) ++ cutS tx (some pl) none = z := ⟨_, rfl⟩
    have ez : tl z = tl (cutS tx none (some pl)) ++ (65 + i) :: tl (cutS tx (some pl) none) := by
      rw [← hz, tl_app, tl_app, tl_str1, List.append_assoc]
      rfl
    have hpre : ∀ c ∈ tl (cutS tx none (some pl)), isLo c = true := fun c hc' => hlo c (by rw [← etx]; exact cutS_mem hc')
    have hsuf : ∀ c ∈ tl (cutS tx (some pl) none), isLo c = true := fun c hc' => hlo c (by rw [← etx]; exact cutS_mem hc')
    obtain ⟨⟨c, r, ec, hcd⟩, w1, w2⟩ := word_ok hi hpre hsuf (by rw [show (tl (cutS tx none (some pl))).length = (cutS tx none (some pl)).length from (TL.len_tl _).symm]; omega) (by rw [show (tl (cutS tx (some pl) none)).length = (cutS tx (some pl) none).length from (TL.len_tl _).symm]; omega) ez
    have lz : z.length ≤ 9 := by
      rw [← hz, TL.len_tl, TL.tl_append, List.length_append, ← TL.len_tl, ← TL.len_tl, lapp]
      omega
    have hat : atI z.cps.toList 0 = some c := by
      show atI (tl z) 0 = some c
      rw [ec]
      exact atI_nat (j := 0) rfl
    rw [hz]
    have e26 : cutS lo36 (some 26) none = ("0123456789" : Str) := by decide +kernel
    refine ⟨_, rfl, _, _, c, rfl, rfl, Nat.le_trans lz (by decide), hat, _, rfl, 26, rfl, lo36, rfl, by decide +kernel, c, _, rfl, rfl, _, rfl, ite2 (fun k => ?_) (fun k => ?_)⟩
    · have hk : c ∈ (cutS lo36 (some 26) none).cps.toList := of_decide_eq_true k
      rw [e26] at hk
      have hd : isD c = true := by
        have al : ∀ x ∈ ("0123456789" : Str).cps.toList, isD x = true := by decide +kernel
        exact al c hk
      have ev : (Str.ofString "v" : Str).length = 1 := by decide +kernel
      refine ⟨_, rfl, _, _, rfl, rfl, by rw [ev]; exact Nat.le_trans (Nat.add_le_add_left lz 1) (by decide), ?_⟩
      exact ⟨_, rfl, q _ H1 hs (w1 c r ec hd) (by rw [TL.len_tl, TL.tl_append, List.length_append, ← TL.len_tl, ← TL.len_tl, ev]; omega)⟩
    · have hk : ¬ c ∈ (cutS lo36 (some 26) none).cps.toList := fun z => k (decide_eq_true z)
      rw [e26] at hk
      have hd : isD c = false := by
        cases e : isD c with
        | false => rfl
        | true => exact absurd (dig_in (isD_lt e)) hk
      exact ⟨_, rfl, q _ H1 hs (w2 c r ec hd) (by omega)⟩
end
end DP
namespace DP
open PySem PySem.Spec PyProof.Rows L2
theorem name_app {u e : Str} {a : Nat} (h : NameOk u) (hl : u.length ≤ a) (he : ∀ c ∈ tl e, (isL c || isD c) = true) (h2 : a + (tl e).length ≤ 15) : NameOk (u ++ e) := by
  obtain ⟨c, r, e1, hc, hr, _⟩ := h
  have l1 : (tl u).length = r.length + 1 := by rw [e1, List.length_cons]
  have l2 : u.length = (tl u).length := TL.len_tl u
  refine ⟨c, r ++ tl e, by rw [tl_app, e1, List.cons_append], hc, fun x hx => ?_, by rw [List.length_append]; omega⟩
  rcases List.mem_append.mp hx with hx | hx
  · exact hr x hx
  · exact he x hx
structure Nms (nm : Nat → Nat → Str) : Prop where
  ok : ∀ j k, k ≤ 10 → NameOk (nm j k)
  okQ : ∀ j k, k ≤ 10 → NameOk (nm j k ++ Str.ofString "Q")
  inj : ∀ j k k', k ≤ 10 → k' ≤ 10 → nm j k = nm j k' → k = k'
  nq : ∀ j k j' k', k ≤ 10 → k' ≤ 10 → nm j k ++ Str.ofString "Q" ≠ nm j' k'
  qq : ∀ j k, k ≤ 10 → (nm j k ++ Str.ofString "Q").length ≤ 15
theorem tl_Q : tl (Str.ofString "Q") = [81] := by decide +kernel
theorem fd {ws : List Str} {r : Nat} {x : Str} {lo hi m : Int} (h : ws[r]? = some x) (hx : x ≠ Str.ofString "") (h2 : ws[r + 1]? = some (num m)) (b : 0 ≤ m ∧ m < 10000000) (c : lo ≤ m ∧ m ≤ hi) : rdField ws r x lo hi = .ok m := by
  rw [fld_at h hx h2 b, if_neg (by omega)]
section
variable {nm : Nat → Nat → Str}
def nl5 (nm : Nat → Nat → Str) (j c : Nat) : List Str := (List.range c).map (nm j)
def lim (i : Nat) : Nat := if i < 2 then 3 else 10
def nst (nm : Nat → Nat → Str) : Nat → Nat → List (List Str)
  | 0, c => [nl5 nm 0 c, [], [], []]
  | 1, c => [nl5 nm 0 3, nl5 nm 1 c, [], []]
  | 2, c => [nl5 nm 0 3, nl5 nm 1 3, nl5 nm 2 c, []]
  | _, c => [nl5 nm 0 3, nl5 nm 1 3, nl5 nm 2 10, nl5 nm 3 c]
theorem Nms.fresh (N : Nms nm) {j c : Nat} (h : c ≤ 10) : nm j c ∉ nl5 nm j c := fun z => by
  obtain ⟨k, hk, e⟩ := List.mem_map.mp z
  have hk := List.mem_range.mp hk
  have := N.inj j k c (by omega) h e
  omega
end
end DP
namespace DP
open PySem PySem.Spec PyProof.Rows L2
abbrev s_empty_plan : Stmt := topS 42
theorem sc_empty_plan : FnScope ["world"] ["world"] (defScope s_empty_plan) := ⟨rfl, rfl, rfl, by decide +kernel, rfl, by decide +kernel, by decide +kernel⟩
abbrev s_with_entry : Stmt := topS 43
theorem sc_with_entry : FnScope ["entries", "number", "entry"] ["entries", "number", "entry"] (defScope s_with_entry) := ⟨rfl, rfl, rfl, by decide +kernel, rfl, by decide +kernel, by decide +kernel⟩
abbrev s_read_make : Stmt := topS 45
theorem sc_read_make : FnScope ["line", "world", "least", "number", "start", "p"] ["line", "world", "least"] (defScope s_read_make) := ⟨rfl, rfl, rfl, by decide +kernel, rfl, by decide +kernel, by decide +kernel⟩
abbrev s_read_take : Stmt := topS 46
theorem sc_read_take : FnScope ["line", "world", "least", "number", "antenna"] ["line", "world", "least"] (defScope s_read_take) := ⟨rfl, rfl, rfl, by decide +kernel, rfl, by decide +kernel, by decide +kernel⟩
abbrev s_parse_plan : Stmt := topS 44
theorem sc_parse_plan : FnScope ["text", "world", "made", "taken", "words", "next_made", "next_taken", "line", "number", "entry", "antenna"] ["text", "world"] (defScope s_parse_plan) := ⟨rfl, rfl, rfl, by decide +kernel, rfl, by decide +kernel, by decide +kernel⟩
theorem sz1_ : 1 ≤ sizeLine := by decide
theorem sz2_ : 2 ≤ sizeLine := Nat.le_trans (by decide : 2 ≤ 1000) (Nat.le_of_lt (small1000 (Nat.le_refl _)))
/-- a def with defaults, all of whose parameters are given -/
structure MAtF (K : PySem.W.Frag) (C : Addr) (m qual : Str) (st : Stmt) (ps : List Str) (ds : List V) : Prop where
  ex : ∃ f fd, FunD K m qual (defArgs st) (defBody st) (defScope st) ds [] f fd ∧ Meth K C m f ∧ Binds K fd ps []
theorem cat_run {K : PySem.W.Frag} {H : Hp} {a b : Addr} {xs ys : List V} {Q : VK} (ha : SqT K H a xs) (hb : SqT K H b ys) (hz : xs.length + ys.length ≤ 1000) (q : ∀ p H', Same H H' → SqT K H' p (xs ++ ys) → Q (.ref p) H') : rCatA K (.ref a) (.ref b) H Q := by
  refine ⟨a, b, xs, ys, rfl, rfl, ha, hb, small hz, fun e => ?_, fun _ e => ?_, fun _ _ p hp => q p _ (same_new hp _) (SqT.of upd_same)⟩
  · subst e
    exact q b H (Same.refl _) hb
  · subst e
    rw [List.append_nil] at q
    exact q a H (Same.refl _) ha
theorem cut_take {xs : List V} {i : Nat} (h : i ≤ xs.length) : cutV xs none (some (i : Int)) = xs.take i := by
  unfold cutV
  rw [HT.sIx_none, HT.sIx_nat, Nat.min_eq_left h, List.drop_zero, Nat.sub_zero]
theorem cut_drop {xs : List V} {i : Nat} (h : i ≤ xs.length) : cutV xs (some (i : Int)) none = xs.drop i := by
  unfold cutV
  rw [HT.sIx_none, HT.sIx_nat, Nat.min_eq_left h]
  exact List.take_of_length_le (by rw [List.length_drop]; exact Nat.le_refl _)
structure TxtPm (mg : Str → Option Value) : Prop where
  g_MOST_ANTENNA : ∃ t, mg "MOST_ANTENNA" = some (.int 99 t)
section
variable {P : Program} {w : World} {K : PySem.W.Frag} {mg : Str → Option Value} {base : Heap} {CL CS CT CR CP CW aS aR fS fT fR fP CF : Addr}
theorem WorldAt.sxX {H H' : Hp} {a ac : Addr} {n : Int} {ws : List Str} {r : Nat} {W : WorldD} (h : WorldAt K CS CT CR CP CW H ac W) (hL : LnX CL H a n ws r) (z : SameX a H H') : WorldAt K CS CT CR CP CW H' ac W := by
  obtain ⟨dx', wl', g1, g2⟩ := hL.ex
  obtain ⟨dx, t0, t1, t2, t3, x0, x1, x2, x3, g, a0, b0, a1, b1, a2, b2, a3, b3⟩ := h.ex
  refine ⟨dx, t0, t1, t2, t3, x0, x1, x2, x3, z.ins g1 g (by show 6 ≠ 4; decide), z.sqT g1 a0, Paired.mapP b0 fun _ _ y => ?_, z.sqT g1 a1, Paired.mapP b1 fun _ _ y => ?_, z.sqT g1 a2, Paired.mapP b2 fun _ _ y => ?_, z.sqT g1 a3, Paired.mapP b3 fun _ _ y => ?_⟩
  · obtain ⟨b, d, t, ls, h1, h2, h3, h4⟩ := y
    exact ⟨b, d, t, ls, h1, z.ins g1 h2 (by show 8 ≠ 4; decide), z.sqT g1 h3, z.spans g1 h4⟩
  · obtain ⟨b, d, h1, h2⟩ := y
    exact ⟨b, d, h1, z.ins g1 h2 (by show 3 ≠ 4; decide)⟩
  · obtain ⟨b, d, h1, h2⟩ := y
    exact ⟨b, d, h1, z.ins g1 h2 (by show 10 ≠ 4; decide)⟩
  · obtain ⟨b, d, t, h1, h2, h3⟩ := y
    exact ⟨b, d, t, h1, z.ins g1 h2 (by show 7 ≠ 4; decide), z.sqT g1 h3⟩
def spWith (K : PySem.W.Frag) : Sp := fun vs H Q _ => ∃ (t : Addr) (xs : List V) (i : Nat) (v : V), vs = [.ref t, .int (i : Int), v] ∧ SqT K H t xs ∧ i < xs.length ∧ xs.length ≤ 100 ∧ ∀ p H', Same H H' → SqT K H' p (xs.take i ++ [v] ++ xs.drop (i + 1)) → Q (.ref p) H'
theorem d_with_entry (A : At K mg "with_entry" s_with_entry ["entries", "number", "entry"]) : DefOk P w K mg base CX0 1 "with_entry" ["entries", "number", "entry"] (spWith K) := by
  refine A.ok sc_with_entry (fun vs H Q E h => ?_) (fun f cdv A outer s H vs Q E hr h => ?_)
  · obtain ⟨t, xs, i, v, rfl, _⟩ := h
    rfl
  obtain ⟨t, xs, i, v, rfl, ht, hi, hl, q⟩ := h
  refine ⟨_, pss_one (ps_ret (pe_op op_catA (pe_op op_catA (pe_slice sl_tup (pv 0) po_none (po_some (pv 1))) (pe_tup (pa_cons (pv 2) pa_nil))) (pe_slice sl_tup (pv 0) (po_some (pe_op op_add (pv 1) pe_int)) po_none)))
    , ?_⟩
  refine ⟨_, rfl, _, rfl, _, rfl, t, xs, rfl, ht, (fun z => by rw [HT.sIx_nat] at z; omega), fun p hp => ?_⟩
  have s1 := same_new hp (.tup (cutV xs none (some (i : Int))))
  refine ⟨_, rfl, sz1_, fun p2 hp2 => ?_⟩
  have s2 := same_new hp2 (.tup [v])
  refine cat_run (SqT.of (s2 _ _ upd_same)) (SqT.of upd_same) (by rw [cut_take (Nat.le_of_lt hi), List.length_take]; show _ + 1 ≤ 1000; omega) (fun p3 H3 s3 ht3 => ?_)
  have t3 := (s1.trans s2).trans s3
  refine ⟨_, rfl, _, rfl, _, _, rfl, rfl, _, rfl, t, xs, rfl, Same.tup t3 ht, (fun z => by rw [show (i : Int) + 1 = ((i + 1 : Nat) : Int) by omega, HT.sIx_nat] at z; omega), fun p4 hp4 => ?_⟩
  have s4 := same_new hp4 (.tup (cutV xs (some ((i : Int) + 1)) none))
  refine cat_run (Same.tup s4 ht3) (SqT.of upd_same) ?_ (fun p5 H5 s5 ht5 => q p5 H5 (t3.trans (s4.trans s5)) ?_)
  · rw [cut_take (Nat.le_of_lt hi), show (i : Int) + 1 = ((i + 1 : Nat) : Int) by omega, cut_drop hi, List.length_append, List.length_take, List.length_drop]
    show _ + 1 + _ ≤ 1000
    omega
  · rw [cut_take (Nat.le_of_lt hi), show (i : Int) + 1 = ((i + 1 : Nat) : Int) by omega, cut_drop hi] at ht5
    exact ht5
def spNamesT (K : PySem.W.Frag) : Sp := fun vs H Q _ => ∃ (l : Addr) (xs : List V) (ns : List Str), vs = [.ref l] ∧ SqT K H l xs ∧ Paired (Named K H) xs ns ∧ ns.length ≤ 100 ∧ ∀ p H', Same H H' → H p = none → H' p = some (.lst (ns.map V.str)) → Q (.ref p) H'
theorem d_names_ofT (B : Bt mg) (A : At K mg "names_of" s_names_of ["things"]) : DefOk P w K mg base CX0 1 "names_of" ["things"] (spNamesT K) := by
  refine A.ok sc_names_of (fun vs H Q E h => ?_) (fun f cdv A outer s H vs Q E hr h => ?_)
  · obtain ⟨l, xs, ns, rfl, _⟩ := h
    rfl
  obtain ⟨l, xs, ns, rfl, hl, hp, hn, q⟩ := h
  have hlen := paired_len hp
  refine ⟨_, pss_one (ps_ret (pe_lc (own := [("thing", 1)])  rfl sc_names_of.nd (pi_tup (pv 0)) (blkOk_by (own := [("thing", 1)]) (N := ["things", "thing"]) (sc := defScope s_names_of) (by decide +kernel)) (fun _ _ _ _ _ => pg_name (i := 1) sc_names_of.nd rfl (Or.inl rfl)) (fun _ _ _ _ _ => pts_nil) (fun _ _ _ _ _ => (pe_fldK (K := K) rfl (pv 1) rfl))))
    , ?_⟩
  refine ⟨_, rfl, l, rfl, ⟨_, hl⟩, fun D hD => ?_⟩
  refine lc_tup (K := K) (a := l) (xs := xs) (fun i H' => Same H H' ∧ H' D = some (.lst ((ns.take i).map V.str))) ⟨same_new hD _, upd_same⟩ (fun i H' _ h => Same.tup h.1 hl) (fun i x H1 hx hI => ?_) (fun H1 hI => ?_)
  · obtain ⟨hs, hDD⟩ := hI
    obtain ⟨nm, hnm, hx2⟩ := paired_at hp hx
    obtain ⟨a, C, dx, fs, rfl, h2, h3, h4, h5⟩ := hx2
    refine ⟨rfl, _, rfl, a, C, dx, fs, _, rfl, hs _ _ h2, h3, h4, h5, _, hDD, ?_, same_at hD hs _, ?_⟩
    · rw [List.length_map, List.length_take]
      exact small1000 (by omega)
    · rw [upd_same, List.take_add_one, hnm, List.map_append]
      rfl
  · obtain ⟨hs, hDD⟩ := hI
    rw [hlen, List.take_length] at hDD
    exact q D H1 hs hD hDD
theorem recs_named (T : TxtW K mg CL CS CT CR CP CW aS aR fS fT fR fP) {H : Hp} : ∀ {xs : List V} {R : List RecD}, Paired (RecAt CR H) xs R → Paired (Named K H) xs (R.map (·.name))
  | _, _, .nil => .nil
  | _, _, .cons h t => by
    obtain ⟨a, d, h1, h2⟩ := h
    exact .cons ⟨a, CR, d, _, h1, h2, T.c_Recording.cl, T.n_Recording_name, lk_Recording_name⟩ (recs_named T t)
theorem pass_named (T : TxtW K mg CL CS CT CR CP CW aS aR fS fT fR fP) {H : Hp} : ∀ {xs : List V} {R : List PasD}, Paired (PasAt K CP H) xs R → Paired (Named K H) xs (R.map (·.name))
  | _, _, .nil => .nil
  | _, _, .cons h t => by
    obtain ⟨a, d, u, h1, h2, _⟩ := h
    exact .cons ⟨a, CP, d, _, h1, h2, T.c_Pass.cl, T.n_Pass_name, lk_Pass_name⟩ (pass_named T t)
theorem MAtF.okX {m qual : Str} {st : Stmt} {ps N : List Str} {k : Nat} {sp : Sp} {ds : List V} {C : Addr} (F : MAtF K C m qual st ps ds) (S : FnScope N ps (defScope st)) (len : ∀ vs H Q E, sp vs H Q E → vs.length = ps.length)
    (hbody : ∀ (f : Addr) (cdv : Value) (A : Around) (outer : List Env) (s : Shared) (H : Hp) (vs : List V) (Q : VK) (E : XK), Room k (A.deeper (envOfC qual (defScope st) s.heap.objs.size f cdv)) → sp vs H Q E →
      ∃ t, PSs (cxOf (L2N.CX P w) P w K mg base N qual (defScope st) f cdv A outer s H E) (defBody st) t ∧ t { nx := fun _ H' => Q .non H', rt := Q } (start N vs) H) : MDef P w K mg base (L2N.CX P w) (k + 1) C m ps [] sp := by
  obtain ⟨f, fd, G, M, b⟩ := F.ex
  exact ⟨f, fd, [], G.ok S len (fun cdv A outer s H vs Q E hr h => hbody f cdv A outer s H vs Q E hr h), M, b, .nil⟩
theorem d_read_known_nameX2 (T : TxtL K mg CL) (D_Line_due_name : MDef P w K mg base (L2N.CX P w) 5 CL "due_name" ["self"] [] (spDueNameX CL CF)) (D_Line_refuse : MDef P w K mg base (L2N.CX P w) 3 CL "refuse" ["self", "reason"] [] (spRefuse CL CF)) (D_Line_step : MDef P w K mg base (L2N.CX P w) 1 CL "step" ["self"] [] (spStepX CL))
    (A : MAtF K CL "read_known_name" "Line.read_known_name" s_Line_read_known_name ["self", "names", "least"] [.int 0]) : MDef P w K mg base (L2N.CX P w) 6 CL "read_known_name" ["self", "names", "least"] [] (spKnownNameX K CL CF) := by
  have B := T.B
  refine A.okX sc_Line_read_known_name (fun vs H Q E h => ?_) (fun f cdv A outer s H vs Q E hr h => ?_)
  · obtain ⟨a, n, ws, r, p, ns, least, rfl, _⟩ := h
    rfl
  obtain ⟨a, n, ws, r, p, ns, least, rfl, hL, hP, qe, q⟩ := h
  refine ⟨_, pss_cons (ps_set (i := 3) sc_Line_read_known_name.nd rfl (Or.inl rfl) (pe_m0 D_Line_due_name T.c_Line.cl (hr.mono (by omega)) (passOut rfl rfl rfl rfl) (pv 0)))
  (pss_cons (ps_if (pt_cmpR op_notIn_seq (pv 3) (pv 1) (by rfl))
      (pss_one (ps_expr (pe_m D_Line_refuse T.c_Line.cl (hr.mono (by omega)) (passOut rfl rfl rfl rfl) (pv 0) (pa_cons pe_str pa_nil))))
      (pss_nil))
  (pss_cons (ps_set (i := 4) sc_Line_read_known_name.nd rfl (Or.inl rfl) (pe_bm PySem.F.plainAttrs_list PySem.F.slot_list_index PySem.F.type_list_index mt_index (pv 1) (pa_cons (pv 3) pa_nil)))
  (pss_cons (ps_if (pt_cmpR op_lt (pv 4) (pv 2) (nomark _))
      (pss_one (ps_expr (pe_m D_Line_refuse T.c_Line.cl (hr.mono (by omega)) (passOut rfl rfl rfl rfl) (pv 0) (pa_cons pe_str pa_nil))))
      (pss_nil))
  (pss_cons (ps_expr (pe_m0 D_Line_step T.c_Line.cl (hr.mono (by omega)) (passOut rfl rfl rfl rfl) (pv 0)))
  (pss_one (ps_ret (pv 4)))))))
    , ?_⟩
  obtain ⟨_, _, g0, z0⟩ := LnX.no hL (m := "due_name") (by decide +kernel) (by decide +kernel) (by decide +kernel) (by decide +kernel)
  refine ⟨_, rfl, a, _, _, rfl, g0, z0, a, n, ws, r, rfl, hL, fun e he => qe e (by unfold rdKnown; rw [he]), fun u hu H1 s1 => ?_⟩
  have L1 := hL.same s1
  refine ⟨_, rfl, _, rfl, p, _, rfl, .inl (s1.seq hP), rfl, flat_strs, _, rfl, ?_⟩
  by_cases hc : u ∈ ns
  · refine iteF' (by rw [inV_str, decide_eq_true hc]; rfl) ?_
    refine ⟨_, rfl, .inl ⟨rfl, _, s1.seq hP⟩, _, rfl, p, _, _, idxS u ns, .str u, rfl, rfl, s1.seq hP, rfl, flat_strs, by rw [List.getElem?_map, idxS_at hc]; rfl, decide_eq_true rfl, fun m z hm hz => ?_, ?_⟩
    · rw [List.getElem?_map] at hz
      cases e : ns[m]? with
      | none => rw [e] at hz; cases hz
      | some y =>
        rw [e] at hz
        have ez : V.str y = z := Option.some.inj hz
        rw [← ez]
        exact decide_eq_false (idxS_first hm e)
    refine ⟨_, rfl, _, rfl, _, _, rfl, rfl, _, rfl, ?_⟩
    by_cases hl : (idxS u ns : Int) < least
    · refine iteT' (decide_eq_true hl) ?_
      (obtain ⟨_, _, g1, z1⟩ := LnX.no L1 (m := "refuse") (by decide +kernel) (by decide +kernel) (by decide +kernel) (by decide +kernel); exact ⟨_, rfl, a, _, _, rfl, g1, z1, a, n, ws, r, _, rfl, L1, by decide +kernel, ((qe _ (by unfold rdKnown; rw [hu]; dsimp only; rw [if_pos hc, if_pos hl])).on (SameX.of s1)).same⟩)
    · refine iteF' (decide_eq_false hl) ?_
      obtain ⟨_, _, g1, z1⟩ := LnX.no L1 (m := "step") (by decide +kernel) (by decide +kernel) (by decide +kernel) (by decide +kernel)
      refine ⟨_, rfl, a, _, _, rfl, g1, z1, a, n, ws, r, rfl, L1, rdDueName_at hu, fun H' s' L' => ?_⟩
      exact ⟨_, rfl, q _ (by unfold rdKnown; rw [hu]; dsimp only; rw [if_pos hc, if_neg hl]) H' ((SameX.of s1).trans s') L'⟩
  · refine iteT' (by rw [inV_str, decide_eq_false hc]; rfl) ?_
    (obtain ⟨_, _, g1, z1⟩ := LnX.no L1 (m := "refuse") (by decide +kernel) (by decide +kernel) (by decide +kernel) (by decide +kernel); exact ⟨_, rfl, a, _, _, rfl, g1, z1, a, n, ws, r, _, rfl, L1, by decide +kernel, ((qe _ (by unfold rdKnown; rw [hu]; dsimp only; rw [if_neg hc])).on (SameX.of s1)).same⟩)
end
end DP
namespace DP
open PySem PySem.Spec PyProof.Rows L2
theorem tuple_mul_one (l : Addr) (items : Array Value) (n : Nat) (dd : Option Addr) (sl : Array (Option Value)) (u : Tok) :
    Meets (Builtin.«tuple.__mul__» ⟨[.ref l, .int 1 u], []⟩) (fun _ R s => s.heap.get? l = some { cls := .type "tuple", dict := dd, data := .seq items n, slots := sl } ∧ R (.ok (.ret (.ref l))) s) :=
  .of_wp fun prog w A R s h => by
    obtain ⟨hp, g, d, tk, os⟩ := s
    obtain ⟨hl, h⟩ := h
    have f1 := AutoSeq1.idx_int
    have c1 : (items.isEmpty || (1 : Int) == 1) = true := by rw [show ((1 : Int) == 1) = true from rfl, Bool.or_true]
    wp_walk using wpAny_loadPart' hl
    exact ⟨_, rfl, h⟩
theorem tuple_mul_zero (l : Addr) (items : Array Value) (n : Nat) (dd : Option Addr) (sl : Array (Option Value)) (u : Tok) (hi : items.isEmpty = false) :
    Meets (Builtin.«tuple.__mul__» ⟨[.ref l, .int 0 u], []⟩) (fun _ R s => s.heap.get? l = some { cls := .type "tuple", dict := dd, data := .seq items n, slots := sl } ∧ R (.ok (.ret (.ref s.heap.objs.size))) { s with heap := s.heap.push { cls := Value.type "tuple", data := Data.seq #[] }, toks := s.toks }) :=
  .of_wp fun prog w A R s h => by
    obtain ⟨hp, g, d, tk, os⟩ := s
    obtain ⟨hl, h⟩ := h
    have f1 := AutoSeq1.idx_int
    have c1 : (items.isEmpty || (0 : Int) == 1) = false := by rw [hi]; rfl
    wp_walk using wpAny_loadPart' hl
    repeat (first
      | (refine wpAny_ite_false (decide_eq_false (by rw [c1]; exact Bool.false_ne_true)) ?_; wp_walk using wpAny_loadPart' hl))
    exact ⟨_, rfl, h⟩
def rRepN (K : PySem.W.Frag) : R2 := fun x y H Q => ∃ l k xs, x = .ref l ∧ y = .int k ∧ SqT K H l xs ∧ xs ≠ [] ∧ 0 ≤ k ∧ k ≤ 1000 ∧ xs.length ≤ 1000 ∧ (k = 1 → Q (.ref l) H) ∧ (k ≠ 1 → ∀ p, H p = none → Q (.ref p) (upd H p (.tup (List.replicate k.toNat xs).flatten)))
theorem op_repN {X : Cx} : OpR X (binaryOp .Mult) (rRepN X.K) := by
  intro pins s σ H x y v u Q I rx ry h
  obtain ⟨l, k, xs, rfl, rfl, hT, hne, h1, h2, hz, q1, q2⟩ := h
  by_cases c : 2 ≤ k
  · exact op_repT pins s σ H _ _ v u Q I rx ry ⟨l, k, xs, rfl, rfl, hT, hne, c, h2, hz, q2 (by omega)⟩
  have e : k = 0 ∨ k = 1 := by omega
  cases rx
  obtain ⟨t, rfl⟩ := ry
  obtain ⟨its, r, ⟨⟨cls, dd, data, sl⟩, ho, hc, n, hd⟩, hs⟩ := I.tuple hT
  simp only at hc hd
  subst hc hd
  have hle : its.length = xs.length := r.length.symm
  have hi : its.toArray.isEmpty = false := by
    cases its with
    | nil => exact absurd (List.eq_nil_of_length_eq_zero hle.symm) hne
    | cons a b => rfl
  rcases e with rfl | rfl
  · refine wpAny_binaryOp_repeat_ref (T := "tuple") (U := "int") (by decide) ⟨_, ho, rfl⟩ (fun s' => typeIs_int s' 0 t) noFill_tuple_mul F.fills_int_mul F.slot_int_rmul repeat_tuple F.slot_int_index.lookup
      (call_meets F.slot_int_rmul (typeIs_int s 0 t) F.entry_int_rmul (F.args_int_rmul_2 _ _) (int_rmul_tuple 0 t l its.toArray n dd sl)
        ⟨ho, rfl, ⟨_, ho, rfl⟩, call_meets F.slot_tuple_mul ⟨_, ho, rfl⟩ F.entry_tuple_mul (F.args_tuple_mul_2 _ _) (tuple_mul_zero l its.toArray n dd sl t hi) ⟨ho, ?_⟩⟩)
    refine ⟨.ref s.heap.objs.size, _, I.laid (t' := s.toks) (o := .tup []) (fun b ob q => Heap.get?_push_of_some _ q) (Nat.le_refl _) ?_, rfl, q2 (by decide) _ (I.hok.fresh (Nat.le_refl _))⟩
    exact ⟨Nat.zero_le _, [], .nil, IsTup.new _ _⟩
  · refine wpAny_binaryOp_repeat_ref (T := "tuple") (U := "int") (by decide) ⟨_, ho, rfl⟩ (fun s' => typeIs_int s' 1 t) noFill_tuple_mul F.fills_int_mul F.slot_int_rmul repeat_tuple F.slot_int_index.lookup
      (call_meets F.slot_int_rmul (typeIs_int s 1 t) F.entry_int_rmul (F.args_int_rmul_2 _ _) (int_rmul_tuple 1 t l its.toArray n dd sl)
        ⟨ho, rfl, ⟨_, ho, rfl⟩, call_meets F.slot_tuple_mul ⟨_, ho, rfl⟩ F.entry_tuple_mul (F.args_tuple_mul_2 _ _) (tuple_mul_one l its.toArray n dd sl t) ⟨ho, ?_⟩⟩)
    exact ⟨.ref l, H, I, rfl, q1 rfl⟩
end DP
namespace DP
open PySem PySem.Spec PyProof.Rows L2
def recNs (W : WorldD) : List Str := W.recs.map (·.name)
def pasNs (W : WorldD) : List Str := W.pass.map (·.name)
def rdMake (W : WorldD) (ws : List Str) (least : Int) : Rd (Nat × Int × Nat) :=
  seq2 (rdKnown ws 1 (recNs W) least) fun j => seq2 (rdField ws 2 "at" 0 W.horizon) fun s => seq2 (rdChoice ws 4 ["with"]) fun _ => seq2 (rdKnown ws 5 (pasNs W) 0) fun p => .ok (j, s, p)
def rdTake (W : WorldD) (ws : List Str) (least : Int) : Rd (Nat × Int) :=
  seq2 (rdKnown ws 1 (pasNs W) least) fun j => seq2 (rdField ws 2 "on" 0 99) fun n => .ok (j, n)
def rdPl1 (W : WorldD) (cs : List Str) (nm nt : Int) (ws : List Str) : Rd (List Str × Int × Int) :=
  seq2 (rdChoice ws 0 cs) fun u => if u = Str.ofString "make" then seq2 (rdMake W ws nm) fun x => seq2 (rdFinish ws 6) fun _ => .ok (cs, (x.1 : Int) + 1, nt)
    else seq2 (rdTake W ws nt) fun x => seq2 (rdFinish ws 4) fun _ => .ok ([Str.ofString "take"], nm, (x.1 : Int) + 1)
def rdPlan (W : WorldD) : List (List Str) → Int → List Str → Int → Int → Except Flt Unit
  | [], _, _, _, _ => .ok ()
  | ws :: rest, n, cs, nm, nt => match rdPl1 W cs nm nt ws with
    | .error e => .error (n, colW ws e.1, e.2)
    | .ok s => rdPlan W rest (n + 1) s.1 s.2.1 s.2.2
theorem rdKnown_lt {ws : List Str} {r : Nat} {ns : List Str} {least : Int} {j : Nat} (h : rdKnown ws r ns least = .ok j) : j < ns.length := by
  unfold rdKnown at h
  split at h
  · cases h
  · rename_i u e
    split at h
    · rename_i hm
      have h3 := (List.getElem?_eq_some_iff.mp (idxS_at hm)).1
      split at h
      · cases h
      · cases h
        exact h3
    · cases h
section
variable {P : Program} {w : World} {K : PySem.W.Frag} {mg : Str → Option Value} {base : Heap} {CL CS CT CR CP CW aS aR fS fT fR fP CF : Addr}
def spReadMakeX (K : PySem.W.Frag) (CL CS CT CR CP CW CF : Addr) : Sp := fun vs H Q E => ∃ (a ac : Addr) (n : Int) (ws : List Str) (W : WorldD) (least : Int), vs = [.ref a, .ref ac, .int least] ∧ WorldOk W ∧ WorldAt K CS CT CR CP CW H ac W ∧ LnX CL H a n ws 1 ∧ (∀ e, rdMake W ws least = .error e → FltX CF E a H n ws e) ∧
  ∀ x, rdMake W ws least = .ok x → x.1 < W.recs.length → ∀ t v H', SameX a H H' → LnX CL H' a n ws 6 → SqT K H' t [.int (x.1 : Int), v] → Q (.ref t) H'
set_option maxHeartbeats 4000000 in
theorem d_read_makeX (T : TxtW K mg CL CS CT CR CP CW aS aR fS fT fR fP) (D_names_of : DefOk P w K mg base (L2N.CX P w) 1 "names_of" ["things"] (spNamesT K)) (D_Line_read_field : MDef P w K mg base (L2N.CX P w) 6 CL "read_field" ["self", "word", "least", "most"] [] (spFieldX CL CF))
    (D_Line_read_choice : MDef P w K mg base (L2N.CX P w) 5 CL "read_choice" ["self", "choices"] [] (spChoiceX K CL CF)) (D_Line_read_known_name : MDef P w K mg base (L2N.CX P w) 6 CL "read_known_name" ["self", "names", "least"] [.int 0] (spKnownNameX K CL CF))
    (D_Line_read_known_name2 : MDef P w K mg base (L2N.CX P w) 6 CL "read_known_name" ["self", "names", "least"] [] (spKnownNameX K CL CF)) (A : At K mg "read_make" s_read_make ["line", "world", "least"]) : DefOk P w K mg base (L2N.CX P w) 7 "read_make" ["line", "world", "least"] (spReadMakeX K CL CS CT CR CP CW CF) := by
  have B := T.L.B
  refine A.okX sc_read_make (fun vs H Q E h => ?_) (fun f cdv A outer s H vs Q E hr h => ?_)
  · obtain ⟨a, ac, n, ws, W, least, rfl, _⟩ := h
    rfl
  obtain ⟨a, ac, n, ws, W, least, rfl, wok, hW, hL, qe, q⟩ := h
  refine ⟨_, pss_cons (ps_set (i := 3) sc_read_make.nd rfl (Or.inl rfl) (pe_m D_Line_read_known_name2 T.c_Line.cl (hr.mono (by omega)) (passOut rfl rfl rfl rfl) (pv 0) (pa_cons (pe_f D_names_of (hr.mono (by omega)) (passOut rfl rfl rfl rfl) (pa_cons (pe_fld (pv 1) rfl) pa_nil)) (pa_cons (pv 2) pa_nil))))
  (pss_cons (ps_set (i := 4) sc_read_make.nd rfl (Or.inl rfl) (pe_m D_Line_read_field T.c_Line.cl (hr.mono (by omega)) (passOut rfl rfl rfl rfl) (pv 0) (pa_cons pe_str (pa_cons pe_int (pa_cons (pe_fld (pv 1) rfl) pa_nil)))))
  (pss_cons (ps_expr (pe_m D_Line_read_choice T.c_Line.cl (hr.mono (by omega)) (passOut rfl rfl rfl rfl) (pv 0) (pa_cons (pe_tup (pa_cons pe_str pa_nil)) pa_nil)))
  (pss_cons (ps_set (i := 5) sc_read_make.nd rfl (Or.inl rfl) (pe_m D_Line_read_known_name T.c_Line.cl (hr.mono (by omega)) (passOut rfl rfl rfl rfl) (pv 0) (pa_cons (pe_f D_names_of (hr.mono (by omega)) (passOut rfl rfl rfl rfl) (pa_cons (pe_fld (pv 1) rfl) pa_nil)) pa_nil)))
  (pss_one (ps_ret (pe_tup (pa_cons (pv 3) (pa_cons (pe_tup (pa_cons (pv 4) (pa_cons (pv 5) pa_nil))) pa_nil))))))))
    , ?_⟩
  have E0 : rdMake W ws least = seq2 (rdKnown ws 1 (recNs W) least) _ := rfl
  obtain ⟨dx, t0, t1, t2, t3, x0, x1, x2, x3, gw, _, _, _, _, p2, q2, p3, q3⟩ := hW.ex
  obtain ⟨_, _, g0, z0⟩ := LnX.no hL (m := "read_known_name") (by decide +kernel) (by decide +kernel) (by decide +kernel) (by decide +kernel)
  refine ⟨_, rfl, a, _, _, rfl, g0, z0, _, rfl, ac, CW, dx, _, _, rfl, gw, T.c_World.cl, T.n_World_recordings, lk_World_recordings, t2, x2, _, rfl, p2, recs_named T q2, by rw [List.length_map]; have := wok.nRecs; omega, fun pn H1 s1 np hp => ?_⟩
  refine ⟨_, rfl, a, n, ws, 1, pn, recNs W, least, rfl, hL.same s1, SqL.of hp, fun e he => (qe e (E0.trans (seq2_err he))).on (SameX.of s1), fun j hj H2 s2 L2 => ?_⟩
  have E2 := E0.trans (seq2_ok hj)
  have S2 := (SameX.of s1 (a := a)).trans s2
  have w2 := hW.sxX hL S2
  obtain ⟨dx2, _, _, _, _, _, _, _, _, gw2, _⟩ := w2.ex
  obtain ⟨_, _, g2, z2⟩ := LnX.no L2 (m := "read_field") (by decide +kernel) (by decide +kernel) (by decide +kernel) (by decide +kernel)
  refine ⟨_, rfl, a, _, _, rfl, g2, z2, _, rfl, ac, CW, dx2, _, _, rfl, gw2, T.c_World.cl, T.n_World_horizon, lk_World_horizon, a, n, ws, 2, _, _, _, rfl, L2, fun e he => (qe e (E2.trans (seq2_err he))).on S2, fun sv hsv H3 s3 L3 => ?_⟩
  have E3 := E2.trans (seq2_ok hsv)
  have S3 := S2.trans s3
  (obtain ⟨_, _, gg, zz⟩ := LnX.no L3 (m := "read_choice") (by decide +kernel) (by decide +kernel) (by decide +kernel) (by decide +kernel); refine ⟨_, rfl, a, _, _, rfl, gg, zz, (by show 1 ≤ sizeLine; decide), fun tt htt => ?_⟩; refine ⟨a, n, ws, 4, tt, [Str.ofString "with"], rfl, LnX.same L3 (same_new htt _), SqT.of upd_same, fun e he => (qe e (E3.trans (seq2_err he))).on (SameX.trans S3 (SameX.of (same_new htt _))), fun uu hm H4 ss L4 => ?_⟩; have E4 := E3.trans (seq2_ok hm); have S4 := (SameX.trans S3 (SameX.of (same_new htt _))).trans ss)
  have w4 := hW.sxX hL S4
  obtain ⟨dx4, r0, r1, r2, r3, y0, y1, y2, y3, gw4, _, _, _, _, _, _, p4, q4⟩ := w4.ex
  obtain ⟨_, _, g4, z4⟩ := LnX.no L4 (m := "read_known_name") (by decide +kernel) (by decide +kernel) (by decide +kernel) (by decide +kernel)
  refine ⟨_, rfl, a, _, _, rfl, g4, z4, _, rfl, ac, CW, dx4, _, _, rfl, gw4, T.c_World.cl, T.n_World_passes, lk_World_passes, r3, y3, _, rfl, p4, pass_named T q4, by rw [List.length_map]; have := wok.nPass; omega, fun pm H5 s5 np5 hp5 => ?_⟩
  refine ⟨a, n, ws, 5, pm, pasNs W, 0, rfl, L4.same s5, SqL.of hp5, fun e he => (qe e (E4.trans (seq2_err he))).on (S4.trans (SameX.of s5)), fun p hp' H6 s6 L6 => ?_⟩
  have E5 := E4.trans (seq2_ok hp')
  have S6 := (S4.trans (SameX.of s5)).trans s6
  refine ⟨_, rfl, _, rfl, _, rfl, sz2_, fun te hte => ⟨sz2_, fun tp htp => ?_⟩⟩
  have sE := same_new hte (.tup [.int sv, .int (p : Int)])
  have sP := same_new htp (.tup [.int (j : Int), .ref te])
  have hj2 := rdKnown_lt hj
  refine q (j, sv, p) E5 (by unfold recNs at hj2; rw [List.length_map] at hj2; exact hj2) tp (.ref te) _ (S6.trans (SameX.of (sE.trans sP))) (L6.same (sE.trans sP)) (SqT.of upd_same)
def spReadTakeX (K : PySem.W.Frag) (CL CS CT CR CP CW CF : Addr) : Sp := fun vs H Q E => ∃ (a ac : Addr) (n : Int) (ws : List Str) (W : WorldD) (least : Int), vs = [.ref a, .ref ac, .int least] ∧ WorldOk W ∧ WorldAt K CS CT CR CP CW H ac W ∧ LnX CL H a n ws 1 ∧ (∀ e, rdTake W ws least = .error e → FltX CF E a H n ws e) ∧
  ∀ x, rdTake W ws least = .ok x → x.1 < W.pass.length → ∀ t v H', SameX a H H' → LnX CL H' a n ws 4 → SqT K H' t [.int (x.1 : Int), v] → Q (.ref t) H'
theorem d_read_takeX (T : TxtW K mg CL CS CT CR CP CW aS aR fS fT fR fP) (TP : TxtPm mg) (D_names_of : DefOk P w K mg base (L2N.CX P w) 1 "names_of" ["things"] (spNamesT K)) (D_Line_read_field : MDef P w K mg base (L2N.CX P w) 6 CL "read_field" ["self", "word", "least", "most"] [] (spFieldX CL CF))
    (D_Line_read_known_name2 : MDef P w K mg base (L2N.CX P w) 6 CL "read_known_name" ["self", "names", "least"] [] (spKnownNameX K CL CF)) (A : At K mg "read_take" s_read_take ["line", "world", "least"]) : DefOk P w K mg base (L2N.CX P w) 7 "read_take" ["line", "world", "least"] (spReadTakeX K CL CS CT CR CP CW CF) := by
  have B := T.L.B
  refine A.okX sc_read_take (fun vs H Q E h => ?_) (fun f cdv A outer s H vs Q E hr h => ?_)
  · obtain ⟨a, ac, n, ws, W, least, rfl, _⟩ := h
    rfl
  obtain ⟨a, ac, n, ws, W, least, rfl, wok, hW, hL, qe, q⟩ := h
  refine ⟨_, pss_cons (ps_set (i := 3) sc_read_take.nd rfl (Or.inl rfl) (pe_m D_Line_read_known_name2 T.c_Line.cl (hr.mono (by omega)) (passOut rfl rfl rfl rfl) (pv 0) (pa_cons (pe_f D_names_of (hr.mono (by omega)) (passOut rfl rfl rfl rfl) (pa_cons (pe_fld (pv 1) rfl) pa_nil)) (pa_cons (pv 2) pa_nil))))
  (pss_cons (ps_set (i := 4) sc_read_take.nd rfl (Or.inl rfl) (pe_m D_Line_read_field T.c_Line.cl (hr.mono (by omega)) (passOut rfl rfl rfl rfl) (pv 0) (pa_cons pe_str (pa_cons pe_int (pa_cons (pe_gi TP.g_MOST_ANTENNA) pa_nil)))))
  (pss_one (ps_ret (pe_tup (pa_cons (pv 3) (pa_cons (pv 4) pa_nil))))))
    , ?_⟩
  have E0 : rdTake W ws least = seq2 (rdKnown ws 1 (pasNs W) least) _ := rfl
  obtain ⟨dx, t0, t1, t2, t3, x0, x1, x2, x3, gw, _, _, _, _, p2, q2, p3, q3⟩ := hW.ex
  obtain ⟨_, _, g0, z0⟩ := LnX.no hL (m := "read_known_name") (by decide +kernel) (by decide +kernel) (by decide +kernel) (by decide +kernel)
  refine ⟨_, rfl, a, _, _, rfl, g0, z0, _, rfl, ac, CW, dx, _, _, rfl, gw, T.c_World.cl, T.n_World_passes, lk_World_passes, t3, x3, _, rfl, p3, pass_named T q3, by rw [List.length_map]; have := wok.nPass; omega, fun pn H1 s1 np hp => ?_⟩
  refine ⟨_, rfl, a, n, ws, 1, pn, pasNs W, least, rfl, hL.same s1, SqL.of hp, fun e he => (qe e (E0.trans (seq2_err he))).on (SameX.of s1), fun j hj H2 s2 L2 => ?_⟩
  have E2 := E0.trans (seq2_ok hj)
  have S2 := (SameX.of s1 (a := a)).trans s2
  obtain ⟨_, _, g2, z2⟩ := LnX.no L2 (m := "read_field") (by decide +kernel) (by decide +kernel) (by decide +kernel) (by decide +kernel)
  refine ⟨_, rfl, a, _, _, rfl, g2, z2, a, n, ws, 2, _, _, _, rfl, L2, fun e he => (qe e (E2.trans (seq2_err he))).on S2, fun sv hsv H3 s3 L3 => ?_⟩
  have E3 := E2.trans (seq2_ok hsv)
  have S3 := S2.trans s3
  refine ⟨_, rfl, _, rfl, sz2_, fun tp htp => ?_⟩
  have sP := same_new htp (.tup [.int (j : Int), .int sv])
  have hj2 := rdKnown_lt hj
  exact q (j, sv) E3 (by unfold pasNs at hj2; rw [List.length_map] at hj2; exact hj2) tp (.int sv) _ (S3.trans (SameX.of sP)) (L3.same sP) (SqT.of upd_same)
/-- the plan with nothing in it -/
def spEmptyX (K : PySem.W.Frag) (CS CT CR CP CW : Addr) : Sp := fun vs H Q _ => ∃ (ac : Addr) (W : WorldD), vs = [.ref ac] ∧ WorldOk W ∧ WorldAt K CS CT CR CP CW H ac W ∧ ∀ t tm tt xm xt H', Same H H' → SqT K H' t [.ref tm, .ref tt] → SqT K H' tm xm → xm.length = W.recs.length → SqT K H' tt xt → xt.length = W.pass.length → Q (.ref t) H'
theorem rep_runX {H : Hp} {p : Addr} {n : Nat} {Q : VK} (hp : H p = some (.tup [.non])) (hn : n ≤ 1000) (q : ∀ v xs H', Same H H' → SqT K H' v xs → xs.length = n → Q (.ref v) H') : rRepN K (.ref p) (.int (n : Int)) H Q := by
  refine ⟨p, _, _, rfl, rfl, SqT.of hp, List.cons_ne_nil _ _, by omega, by omega, by show 1 ≤ 1000; decide, fun e => ?_, fun e r hr => ?_⟩
  · have e1 : n = 1 := by omega
    subst e1
    exact q _ _ _ (Same.refl _) (SqT.of hp) rfl
  · refine q _ _ _ (same_new hr _) (SqT.of upd_same) ?_
    rw [show ((n : Nat) : Int).toNat = n from Int.toNat_natCast n, List.flatten_replicate_singleton, List.length_replicate]
theorem d_empty_planX (T : TxtW K mg CL CS CT CR CP CW aS aR fS fT fR fP) (A : At K mg "empty_plan" s_empty_plan ["world"]) : DefOk P w K mg base CX0 1 "empty_plan" ["world"] (spEmptyX K CS CT CR CP CW) := by
  have B := T.L.B
  refine A.ok sc_empty_plan (fun vs H Q E h => ?_) (fun f cdv A outer s H vs Q E hr h => ?_)
  · obtain ⟨ac, W, rfl, _⟩ := h
    rfl
  obtain ⟨ac, W, rfl, wok, hW, q⟩ := h
  obtain ⟨dx, t0, t1, t2, t3, x0, x1, x2, x3, gw, _, _, _, _, p2, q2, p3, q3⟩ := hW.ex
  have l2 := paired_len q2
  have l3 := paired_len q3
  have nR := wok.nRecs
  have nP := wok.nPass
  refine ⟨_, pss_one (ps_ret (pe_tup (pa_cons (pe_op op_repN (pe_tup (pa_cons pe_non pa_nil)) (pe_callB (call_len_seq) (by rfl) B.len (by decide +kernel) (pa_cons (pe_fld (pv 0) rfl) pa_nil))) (pa_cons (pe_op op_repN (pe_tup (pa_cons pe_non pa_nil)) (pe_callB (call_len_seq) (by rfl) B.len (by decide +kernel) (pa_cons (pe_fld (pv 0) rfl) pa_nil))) pa_nil))))
    , ?_⟩
  refine ⟨sz1_, fun p hp => ?_⟩
  have s1 := same_new hp (.tup [.non])
  refine ⟨_, rfl, ac, CW, dx, _, _, rfl, (s1 _ _ gw), T.c_World.cl, T.n_World_recordings, lk_World_recordings, t2, x2, rfl, .inr (Same.tup s1 p2), ?_⟩
  refine rep_runX upd_same (by omega) (fun v xs H1 s2 d2 e2 => ?_)
  refine ⟨sz1_, fun r hr' => ?_⟩
  have s3 := same_new hr' (.tup [.non])
  have t3' := s1.trans (s2.trans s3)
  refine ⟨_, rfl, ac, CW, dx, _, _, rfl, (t3' _ _ gw), T.c_World.cl, T.n_World_passes, lk_World_passes, t3, x3, rfl, .inr (Same.tup t3' p3), ?_⟩
  refine rep_runX upd_same (by omega) (fun u ys H2 s4 d4 e4 => ⟨sz2_, fun tp htp => ?_⟩)
  have s5 := same_new htp (.tup [.ref v, .ref u])
  exact q tp v u xs ys _ (t3'.trans (s4.trans s5)) (SqT.of upd_same) (Same.tup (s3.trans (s4.trans s5)) d2) (by rw [e2, l2]) (Same.tup s5 d4) (by rw [e4, l3])
end
end DP
namespace DP
open PySem PySem.Spec PyProof.Rows L2
section
variable {P : Program} {w : World} {K : PySem.W.Frag} {mg : Str → Option Value} {base : Heap} {CL CS CT CR CP CW aS aR fS fT fR fP CF : Addr}
theorem drop_at {α : Type} : ∀ {l : List α} {n : Nat} {e : α}, l[n]? = some e → l.drop n = e :: l.drop (n + 1)
  | a :: r, 0, e, h => by rw [← Option.some.inj h]; rfl
  | a :: r, n + 1, e, h => by
    rw [List.drop_succ_cons, List.drop_succ_cons]
    exact drop_at (l := r) h
abbrev mkTk : List Str := [Str.ofString "make", Str.ofString "take"]
def spParsePlanX (K : PySem.W.Frag) (CS CT CR CP CW CF : Addr) : Sp := fun vs H _ E => ∃ (ac : Addr) (W : WorldD) (text : Str) (lns : List (List Str)) (f : Flt), vs = [.str text, .ref ac] ∧ WorldOk W ∧ WorldAt K CS CT CR CP CW H ac W ∧ Txt.split text nl = lns.map row ++ [Str.empty] ∧ (∀ l ∈ lns, LnOk l) ∧ lns.length ≤ 100 ∧ text.length ≤ 1000000 ∧
  rdPlan W lns 1 mkTk 0 0 = .error f ∧ FltE CF E (Same H) f.1 f.2.1 f.2.2
set_option maxHeartbeats 16000000 in
theorem d_parse_planX (T : TxtW K mg CL CS CT CR CP CW aS aR fS fT fR fP) (D_empty_plan : DefOk P w K mg base (L2N.CX P w) 1 "empty_plan" ["world"] (spEmptyX K CS CT CR CP CW)) (D_lines_of : DefOk P w K mg base (L2N.CX P w) 4 "lines_of" ["text"] (spLinesX CL CF))
    (D_Line_read_choice : MDef P w K mg base (L2N.CX P w) 5 CL "read_choice" ["self", "choices"] [] (spChoiceX K CL CF)) (D_Line_finish : MDef P w K mg base (L2N.CX P w) 5 CL "finish" ["self"] [] (spFinishX CL CF))
    (D_read_make : DefOk P w K mg base (L2N.CX P w) 7 "read_make" ["line", "world", "least"] (spReadMakeX K CL CS CT CR CP CW CF)) (D_read_take : DefOk P w K mg base (L2N.CX P w) 7 "read_take" ["line", "world", "least"] (spReadTakeX K CL CS CT CR CP CW CF))
    (D_with_entry : DefOk P w K mg base (L2N.CX P w) 1 "with_entry" ["entries", "number", "entry"] (spWith K)) (A : At K mg "parse_plan" s_parse_plan ["text", "world"]) : DefOk P w K mg base (L2N.CX P w) 8 "parse_plan" ["text", "world"] (spParsePlanX K CS CT CR CP CW CF) := by
  have B := T.L.B
  refine A.okX sc_parse_plan (fun vs H Q E h => ?_) (fun f cdv A outer s H vs Q E hr h => ?_)
  · obtain ⟨ac, W, text, lns, f, rfl, _⟩ := h
    rfl
  obtain ⟨ac, W, text, lns, ft, rfl, wok, hW, hsp, hok, hn, hz, hft, qe⟩ := h
  have nR := wok.nRecs
  have nP := wok.nPass
  refine ⟨_, pss_cons (ps_asg (pe_f D_empty_plan (hr.mono (by omega)) (passOut rfl rfl rfl rfl) (pa_cons (pv 1) pa_nil)) (pg_tup (by rfl) (pgs_cons (pg_name (i := 2) sc_parse_plan.nd rfl (Or.inl rfl)) (pgs_cons (pg_name (i := 3) sc_parse_plan.nd rfl (Or.inl rfl)) (pgs_nil)))))
  (pss_cons (ps_set (i := 4) sc_parse_plan.nd rfl (Or.inl rfl) (pe_tup (pa_cons pe_str (pa_cons pe_str pa_nil))))
  (pss_cons (ps_asg2 pe_int (pg_name (i := 5) sc_parse_plan.nd rfl (Or.inl rfl)) (pg_name (i := 6) sc_parse_plan.nd rfl (Or.inl rfl)))
  (pss_cons (ps_for (passes_of rfl) rfl (pi_list (pe_f D_lines_of (hr.mono (by omega)) (passOut rfl rfl rfl rfl) (pa_cons (pv 0) pa_nil))) (pg_name (i := 7) sc_parse_plan.nd rfl (Or.inl rfl))
      (pss_cons (ps_if (pt_cmpR op_eq (pe_m D_Line_read_choice T.c_Line.cl (hr.mono (by omega)) (passOut rfl rfl rfl rfl) (pv 7) (pa_cons (pv 4) pa_nil)) pe_str (nomark _))
          (pss_cons (ps_asg (pe_f D_read_make (hr.mono (by omega)) (passOut rfl rfl rfl rfl) (pa_cons (pv 7) (pa_cons (pv 1) (pa_cons (pv 5) pa_nil)))) (pg_tup (by rfl) (pgs_cons (pg_name (i := 8) sc_parse_plan.nd rfl (Or.inl rfl)) (pgs_cons (pg_name (i := 9) sc_parse_plan.nd rfl (Or.inl rfl)) (pgs_nil)))))
          (pss_cons (ps_set (i := 2) sc_parse_plan.nd rfl (Or.inl rfl) (pe_f D_with_entry (hr.mono (by omega)) (passOut rfl rfl rfl rfl) (pa_cons (pv 2) (pa_cons (pv 8) (pa_cons (pv 9) pa_nil)))))
          (pss_one (ps_set (i := 5) sc_parse_plan.nd rfl (Or.inl rfl) (pe_op op_add (pv 8) pe_int)))))
          (pss_cons (ps_asg (pe_f D_read_take (hr.mono (by omega)) (passOut rfl rfl rfl rfl) (pa_cons (pv 7) (pa_cons (pv 1) (pa_cons (pv 6) pa_nil)))) (pg_tup (by rfl) (pgs_cons (pg_name (i := 8) sc_parse_plan.nd rfl (Or.inl rfl)) (pgs_cons (pg_name (i := 10) sc_parse_plan.nd rfl (Or.inl rfl)) (pgs_nil)))))
          (pss_cons (ps_set (i := 3) sc_parse_plan.nd rfl (Or.inl rfl) (pe_f D_with_entry (hr.mono (by omega)) (passOut rfl rfl rfl rfl) (pa_cons (pv 3) (pa_cons (pv 8) (pa_cons (pv 10) pa_nil)))))
          (pss_cons (ps_set (i := 6) sc_parse_plan.nd rfl (Or.inl rfl) (pe_op op_add (pv 8) pe_int))
          (pss_one (ps_set (i := 4) sc_parse_plan.nd rfl (Or.inl rfl) (pe_tup (pa_cons pe_str pa_nil))))))))
      (pss_one (ps_expr (pe_m0 D_Line_finish T.c_Line.cl (hr.mono (by omega)) (passOut rfl rfl rfl rfl) (pv 7))))))
  (pss_one (ps_ret (pe_tup (pa_cons (pv 2) (pa_cons (pv 3) pa_nil))))))))
    , ?_⟩
  refine ⟨_, rfl, ac, W, rfl, wok, hW, fun ve tm tt xm0 xt0 H1 s1 hve hm0 lm0 ht0 lt0 => ?_⟩
  refine ⟨ve, _, rfl, hve, rfl, _, _, rfl, _, _, rfl, rfl, ?_⟩
  refine ⟨sz2_, fun wt hwt => ?_⟩
  have sW := same_new hwt (.tup [.str "make", .str "take"])
  have gw0 : (upd H1 wt (.tup [.str "make", .str "take"])) wt = some (.tup [.str "make", .str "take"]) := upd_same
  generalize (upd H1 wt (.tup [.str "make", .str "take"])) = H2 at sW gw0
  refine ⟨_, rfl, text, lns, Str.empty, rfl, hsp, hok, hn, hz, by decide, fun z => absurd rfl z, fun _ pl as H3 s3 n0 hfr hnd hp hlen hpr => ?_⟩
  have hW3 := (hW.same s1).same (sW.trans s3)
  have all3 : Same H H3 := s1.trans (sW.trans s3)
  have npl : pl ∉ as := fun z => by
    obtain ⟨i, hi⟩ := List.getElem?_of_mem z
    have hil : i < lns.length := by rw [← hlen]; exact (List.getElem?_eq_some_iff.mp hi).1
    have hL := hpr i pl _ hi (List.getElem?_eq_getElem hil)
    obtain ⟨dx, wl, g1, _⟩ := hL.ex
    rw [hp] at g1
    cases g1
  refine ⟨pl, rfl, ⟨_, SqL.of hp⟩, for_list (K := K) (a := pl) (xs := as.map V.ref) (fun k σ H' => ∃ (xm xt wt : Addr) (nm nt : Int) (cs : List Str) (vm vt : List V) (y7 y8 y9 y10 : Option V), σ = [some (.str text), some (.ref ac), some (.ref xm), some (.ref xt), some (.ref wt), some (.int nm), some (.int nt), y7, y8, y9, y10] ∧ SameA as H3 H' ∧ WorldAt K CS CT CR CP CW H' ac W ∧
    (∀ (m : Nat) b l, k ≤ m → as[m]? = some b → lns[m]? = some l → LnX CL H' b (1 + m) l 0) ∧ SqT K H' wt (cs.map V.str) ∧ SqT K H' xm vm ∧ vm.length = W.recs.length ∧ SqT K H' xt vt ∧ vt.length = W.pass.length ∧ rdPlan W (lns.drop k) (1 + k) cs nm nt = .error ft)
    ⟨tm, tt, wt, 0, 0, mkTk, xm0, xt0, none, none, none, none, rfl, fun b o _ h => h, hW3, fun m b l _ h1 h2 => hpr m b l h1 h2, SqT.of (s3 _ _ gw0), Same.tup (sW.trans s3) hm0, lm0, Same.tup (sW.trans s3) ht0, lt0, hft⟩
    (fun k σ H' _ hI => ?_) (fun k x σ H' hx hI => ?_) (fun σ H' hI => ?_)⟩
  · obtain ⟨xm, xt, wt, nm, nt, cs, vm, vt, y7, y8, y9, y10, rfl, hsA, _⟩ := hI
    exact SqL.of (hsA _ _ npl hp)
  · obtain ⟨xm, xt, wt, nm, nt, cs, vm, vt, y7, y8, y9, y10, rfl, hsA, hW', hLn, hwt, hxm, lxm, hxt, lxt, hrd⟩ := hI
    rw [List.getElem?_map] at hx
    cases ea : as[k]? with
    | none => rw [ea] at hx; cases hx
    | some a =>
    rw [ea] at hx
    have ex : V.ref a = x := Option.some.inj hx
    subst ex
    have ham : a ∈ as := List.mem_of_getElem? ea
    have hkl : k < lns.length := by rw [← hlen]; exact (List.getElem?_eq_some_iff.mp ea).1
    have el : lns[k]? = some lns[k] := List.getElem?_eq_getElem hkl
    generalize hl : lns[k] = l at el
    have hL := hLn k a l (Nat.le_refl _) ea el
    have hrd0 := hrd
    rw [drop_at el] at hrd
    have hrd : (match rdPl1 W cs nm nt l with | .error e => .error (1 + (k : Int), colW l e.1, e.2) | .ok s => rdPlan W (lns.drop (k + 1)) (1 + (k : Int) + 1) s.1 s.2.1 s.2.2) = Except.error ft := hrd
    have flt : ∀ {H2 : Hp}, SameX a H' H2 → ∀ e, rdPl1 W cs nm nt l = .error e → FltX CF E a H2 (1 + (k : Int)) l e := fun {H2} s2 e he d H3' s3' hd => by
      rw [he] at hrd
      have eft : ft = (1 + (k : Int), colW l e.1, e.2) := (Except.error.inj hrd).symm
      rw [eft] at qe
      refine qe d H3' (fun b o hb => ?_) hd
      have hb3 := all3 b o hb
      have hb1 : H2 b = some o ∧ b ≠ a := by
        have nb : b ∉ as := fun z => ne_of_none ((s1.trans sW) b o hb) (hfr b z) rfl
        have nba : b ≠ a := fun z => nb (z ▸ ham)
        exact ⟨s2 b o nba (hsA b o nb hb3), nba⟩
      exact s3' b o hb1.2 hb1.1
    have E0 : rdPl1 W cs nm nt l = seq2 (rdChoice l 0 cs) _ := rfl
    -- what stays behind this line
    have keep : ∀ {H2 : Hp}, SameX a H' H2 → SameA as H3 H2 ∧ WorldAt K CS CT CR CP CW H2 ac W ∧ (∀ (m : Nat) b l, k + 1 ≤ m → as[m]? = some b → lns[m]? = some l → LnX CL H2 b (1 + m) l 0) ∧ (∀ p xs, SqT K H' p xs → SqT K H2 p xs) := fun {H2} sX => by
      refine ⟨hsA.trans (SameA.ofX sX ham), hW'.sxX hL sX, fun m b l' hm h1 h2 => ?_, fun p xs hpx => ?_⟩
      · refine (hLn m b l' (by omega) h1 h2).sx hL (fun z => ?_) sX
        rw [z] at h1
        have := (List.getElem?_inj (by have := (List.getElem?_eq_some_iff.mp ea).1; omega) hnd).mp (ea.trans h1.symm)
        omega
      · obtain ⟨_, _, gg, _⟩ := hL.ex
        exact sX.sqT gg hpx
    obtain ⟨_, _, g0, z0⟩ := LnX.no hL (m := "read_choice") (by decide +kernel) (by decide +kernel) (by decide +kernel) (by decide +kernel)
    refine ⟨_, rfl, a, _, _, rfl, g0, z0, _, rfl, a, 1 + (k : Int), l, 0, wt, cs, rfl, hL, hwt, fun e he => flt (SameX.of (Same.refl _)) e (E0.trans (seq2_err he)), fun u hu HA sA LA => ⟨rfl, _, rfl, ?_⟩⟩
    have E1 := E0.trans (seq2_ok hu)
    obtain ⟨_, wA, _, tA⟩ := keep sA
    by_cases cu : u = Str.ofString "make"
    · rw [if_pos cu] at E1
      refine iteT' (by rw [cu]; exact decide_eq_true rfl) ?_
      refine ⟨_, rfl, _, rfl, _, rfl, a, ac, 1 + (k : Int), l, W, nm, rfl, wok, wA, LA, fun e he => (flt sA e (E1.trans (seq2_err he))), fun x2 hx2 hlt tp te HB sB LB htp => ⟨tp, _, rfl, htp, rfl, _, _, rfl, _, _, rfl, rfl, ?_⟩⟩
      have E2 := E1.trans (seq2_ok hx2)
      obtain ⟨_, _, _, tB⟩ := keep (sA.trans sB)
      refine ⟨_, rfl, _, rfl, _, rfl, xm, vm, x2.1, te, rfl, tB _ _ hxm, by omega, by omega, fun pm HC sC hpm => ?_⟩
      refine ⟨_, rfl, _, _, rfl, rfl, ?_⟩
      have LC := LB.same sC
      have sX : SameX a H' HC := (sA.trans sB).trans (SameX.of sC)
      obtain ⟨_, _, g1, z1⟩ := LnX.no LC (m := "finish") (by decide +kernel) (by decide +kernel) (by decide +kernel) (by decide +kernel)
      refine ⟨_, rfl, a, _, _, rfl, g1, z1, a, 1 + (k : Int), l, 6, rfl, LC, fun e he => flt sX e (E2.trans (seq2_err he)), fun hfin => ?_⟩
      have E3 := E2.trans (seq2_ok hfin)
      rw [E3] at hrd
      obtain ⟨k1, k2, k3, k4⟩ := keep sX
      refine ⟨pm, xt, wt, (x2.1 : Int) + 1, nt, cs, _, vt, _, _, _, _, rfl, k1, k2, k3, k4 _ _ hwt, hpm, ?_, k4 _ _ hxt, lxt, ?_⟩
      · simp only [List.length_append, List.length_take, List.length_drop, List.length_singleton]
        omega
      · rw [show (1 + ((k + 1 : Nat) : Int)) = 1 + (k : Int) + 1 by omega]
        exact hrd
    · rw [if_neg cu] at E1
      refine iteF' (decide_eq_false fun z => cu (V.str.inj z)) ?_
      refine ⟨_, rfl, _, rfl, _, rfl, a, ac, 1 + (k : Int), l, W, nt, rfl, wok, wA, LA, fun e he => (flt sA e (E1.trans (seq2_err he))), fun x2 hx2 hlt tp te HB sB LB htp => ⟨tp, _, rfl, htp, rfl, _, _, rfl, _, _, rfl, rfl, ?_⟩⟩
      have E2 := E1.trans (seq2_ok hx2)
      obtain ⟨_, _, _, tB⟩ := keep (sA.trans sB)
      refine ⟨_, rfl, _, rfl, _, rfl, xt, vt, x2.1, te, rfl, tB _ _ hxt, by omega, by omega, fun pm HC sC hpm => ?_⟩
      refine ⟨_, rfl, _, _, rfl, rfl, ?_⟩
      refine ⟨sz1_, fun wn hwn => ?_⟩
      have sN := same_new hwn (.tup [.str "take"])
      have gN : (upd HC wn (.tup [.str "take"])) wn = some (.tup [.str "take"]) := upd_same
      generalize (upd HC wn (.tup [.str "take"])) = HD at sN gN
      have LC := (LB.same sC).same sN
      have sX : SameX a H' HD := (sA.trans sB).trans (SameX.of (sC.trans sN))
      obtain ⟨_, _, g1, z1⟩ := LnX.no LC (m := "finish") (by decide +kernel) (by decide +kernel) (by decide +kernel) (by decide +kernel)
      refine ⟨_, rfl, a, _, _, rfl, g1, z1, a, 1 + (k : Int), l, 4, rfl, LC, fun e he => flt sX e (E2.trans (seq2_err he)), fun hfin => ?_⟩
      have E3 := E2.trans (seq2_ok hfin)
      rw [E3] at hrd
      obtain ⟨k1, k2, k3, k4⟩ := keep sX
      refine ⟨xm, pm, wn, nm, (x2.1 : Int) + 1, [Str.ofString "take"], vm, _, _, _, _, _, rfl, k1, k2, k3, SqT.of gN, k4 _ _ hxm, lxm, Same.tup sN hpm, ?_, ?_⟩
      · simp only [List.length_append, List.length_take, List.length_drop, List.length_singleton]
        omega
      · rw [show (1 + ((k + 1 : Nat) : Int)) = 1 + (k : Int) + 1 by omega]
        exact hrd
  · obtain ⟨xm, xt, wt, nm, nt, cs, vm, vt, y7, y8, y9, y10, rfl, hsA, hW', hLn, hwt, hxm, lxm, hxt, lxt, hrd⟩ := hI
    rw [show lns.drop (as.map V.ref).length = [] from List.drop_eq_nil_iff.mpr (by rw [List.length_map, hlen]; exact Nat.le_refl _)] at hrd
    cases hrd
end
end DP
namespace DP
open PySem PySem.Spec PyProof.Rows L2
structure Nm (r p : Nat → Str) : Prop where
  r : ∀ i, i < 3 → WordAt i (r i) ∧ (r i).length ≤ 10
  p : ∀ i, i < 3 → WordAt (3 + i) (p i) ∧ (p i).length ≤ 10
def recJ (n : Str) : RecD := ⟨n, 0, 5, 9, 2, 3, 4, 5, 2, 60⟩
def pasJ (n : Str) : PasD := ⟨n, 0, 0, 12, 20, 3, 4, 5⟩
def WJ (r p : Nat → Str) : WorldD := ⟨90, [⟨Str.ofString "S", 5, 60, 50, 20, 1, 2, []⟩], [⟨Str.ofString "T", 2, 4⟩], [recJ (r 0), recJ (r 1), recJ (r 2)], [pasJ (p 0), pasJ (p 1), pasJ (p 2)]⟩
theorem rJ {r p : Nat → Str} : recNs (WJ r p) = [r 0, r 1, r 2] := rfl
theorem pJ {r p : Nat → Str} : pasNs (WJ r p) = [p 0, p 1, p 2] := rfl
theorem WordAt.ne {i j : Nat} {u v : Str} (h : WordAt i u) (k : WordAt j v) (n : i ≠ j) : u ≠ v := fun z => n (h.inj (z ▸ k))
theorem WordAt.neQ {i j : Nat} {u v : Str} (h : WordAt i u) (k : WordAt j v) : u ++ Str.ofString "Q" ≠ v := fun z => by
  have e := k.cap
  rw [← z, tl_app, tl_Q, List.filter_append, h.cap] at e
  have := congrArg List.length e
  simp [isUp] at this
theorem WordAt.okQ {i : Nat} {u : Str} (h : WordAt i u) (hl : u.length ≤ 10) : NameOk (u ++ Str.ofString "Q") := name_app h.ok hl (by rw [tl_Q]; decide) (by rw [tl_Q]; decide)
theorem idx0 {a b c : Str} : idxS a [a, b, c] = 0 := by unfold idxS; rw [if_pos rfl]
theorem idx1 {a b c : Str} (h : a ≠ b) : idxS b [a, b, c] = 1 := by unfold idxS; rw [if_neg h, idxS, if_pos rfl]
theorem idx2 {a b c : Str} (h : a ≠ c) (k : b ≠ c) : idxS c [a, b, c] = 2 := by unfold idxS; rw [if_neg h, idxS, if_neg k, idxS, if_pos rfl]
abbrev mkL (u : Str) (s : Int) (v : Str) : List Str := [Str.ofString "make", u, Str.ofString "at", num s, Str.ofString "with", v]
abbrev tkL (u : Str) (n : Int) : List Str := [Str.ofString "take", u, Str.ofString "on", num n]
abbrev lOo : Str := "line out of order"
abbrev unW : Str := "unexpected word"
abbrev emW : Str := "empty word"
theorem choice_of {ws : List Str} {r : Nat} {x : Str} {cs : List Str} (h : ws[r]? = some x) (hn : x ≠ Str.ofString "") (hm : x ∈ cs) : rdChoice ws r cs = .ok x := by
  unfold rdChoice
  rw [due_at h hn]
  exact if_pos hm
theorem choice_no {ws : List Str} {r : Nat} {x : Str} {cs : List Str} (h : ws[r]? = some x) (hn : x ≠ Str.ofString "") (hm : x ∉ cs) : rdChoice ws r cs = .error (r, unW) := by
  unfold rdChoice
  rw [due_at h hn]
  exact if_neg hm
theorem known_if' {ws : List Str} {r : Nat} {u : Str} {ns : List Str} {least : Int} (h : ws[r]? = some u) (hu : NameOk u) : rdKnown ws r ns least = if u ∈ ns then (if (idxS u ns : Int) < least then .error (r, lOo) else .ok (idxS u ns)) else .error (r, "unknown name") := by
  unfold rdKnown
  rw [dname_at h hu]
theorem known_j {ws : List Str} {r j : Nat} {u : Str} {ns : List Str} {least : Int} (h : ws[r]? = some u) (hu : NameOk u) (hm : u ∈ ns) (hi : idxS u ns = j) (hl : least ≤ (j : Int)) : rdKnown ws r ns least = .ok j := by
  rw [known_if' h hu, if_pos hm, hi, if_neg (by omega)]
theorem known_o {ws : List Str} {r j : Nat} {u : Str} {ns : List Str} {least : Int} (h : ws[r]? = some u) (hu : NameOk u) (hm : u ∈ ns) (hi : idxS u ns = j) (hl : (j : Int) < least) : rdKnown ws r ns least = .error (r, lOo) := by
  rw [known_if' h hu, if_pos hm, hi, if_pos hl]
theorem known_u {ws : List Str} {r : Nat} {u : Str} {ns : List Str} {least : Int} (h : ws[r]? = some u) (hu : NameOk u) (hm : u ∉ ns) : rdKnown ws r ns least = .error (r, "unknown name") := by
  rw [known_if' h hu, if_neg hm]
section
variable {W : WorldD} {cs : List Str} {nm nt n : Int} {ws : List Str} {rest : List (List Str)}
theorem plan_ok {s : List Str × Int × Int} (h : rdPl1 W cs nm nt ws = .ok s) : rdPlan W (ws :: rest) n cs nm nt = rdPlan W rest (n + 1) s.1 s.2.1 s.2.2 := by
  show (match rdPl1 W cs nm nt ws with | .error e => Except.error (n, colW ws e.1, e.2) | .ok s => rdPlan W rest (n + 1) s.1 s.2.1 s.2.2) = _
  rw [h]
theorem plan_er {e : Er} {c : Int} (h : rdPl1 W cs nm nt ws = .error e) (hc : colW ws e.1 = c) : rdPlan W (ws :: rest) n cs nm nt = .error (n, c, e.2) := by
  show (match rdPl1 W cs nm nt ws with | .error e => Except.error (n, colW ws e.1, e.2) | .ok s => rdPlan W rest (n + 1) s.1 s.2.1 s.2.2) = _
  rw [h, ← hc]
theorem pl1_mk (h : ws[0]? = some (Str.ofString "make")) (hm : Str.ofString "make" ∈ cs) : rdPl1 W cs nm nt ws = seq2 (rdMake W ws nm) fun x => seq2 (rdFinish ws 6) fun _ => .ok (cs, (x.1 : Int) + 1, nt) := by
  unfold rdPl1
  rw [choice_of h (by decide +kernel) hm, seq2_okv, if_pos rfl]
theorem pl1_tk (h : ws[0]? = some (Str.ofString "take")) (hm : Str.ofString "take" ∈ cs) : rdPl1 W cs nm nt ws = seq2 (rdTake W ws nt) fun x => seq2 (rdFinish ws 4) fun _ => .ok ([Str.ofString "take"], nm, (x.1 : Int) + 1) := by
  unfold rdPl1
  rw [choice_of h (by decide +kernel) hm, seq2_okv, if_neg (by decide +kernel)]
theorem pl1_er {e : Er} (h : rdChoice ws 0 cs = .error e) : rdPl1 W cs nm nt ws = .error e := seq2_err h
end
section
variable {r p : Nat → Str} {nm nt : Int} {cs : List Str}
theorem at3 (N : Nm r p) {i : Nat} (hi : i < 3) : r i ∈ recNs (WJ r p) ∧ idxS (r i) (recNs (WJ r p)) = i := by
  have d01 := (N.r 0 (by decide)).1.ne (N.r 1 (by decide)).1 (by decide)
  have d02 := (N.r 0 (by decide)).1.ne (N.r 2 (by decide)).1 (by decide)
  have d12 := (N.r 1 (by decide)).1.ne (N.r 2 (by decide)).1 (by decide)
  rw [rJ]
  match i, hi with
  | 0, _ => exact ⟨List.mem_cons_self, idx0⟩
  | 1, _ => exact ⟨List.mem_cons_of_mem _ List.mem_cons_self, idx1 d01⟩
  | 2, _ => exact ⟨List.mem_cons_of_mem _ (List.mem_cons_of_mem _ List.mem_cons_self), idx2 d02 d12⟩
theorem at3p (N : Nm r p) {i : Nat} (hi : i < 3) : p i ∈ pasNs (WJ r p) ∧ idxS (p i) (pasNs (WJ r p)) = i := by
  have d01 := (N.p 0 (by decide)).1.ne (N.p 1 (by decide)).1 (by decide)
  have d02 := (N.p 0 (by decide)).1.ne (N.p 2 (by decide)).1 (by decide)
  have d12 := (N.p 1 (by decide)).1.ne (N.p 2 (by decide)).1 (by decide)
  rw [pJ]
  match i, hi with
  | 0, _ => exact ⟨List.mem_cons_self, idx0⟩
  | 1, _ => exact ⟨List.mem_cons_of_mem _ List.mem_cons_self, idx1 d01⟩
  | 2, _ => exact ⟨List.mem_cons_of_mem _ (List.mem_cons_of_mem _ List.mem_cons_self), idx2 d02 d12⟩
theorem unkR (N : Nm r p) {i : Nat} (hi : i < 3) : r i ++ Str.ofString "Q" ∉ recNs (WJ r p) := fun z => by
  rw [rJ] at z
  simp only [List.mem_cons, List.not_mem_nil, or_false] at z
  rcases z with z | z | z
  · exact WordAt.neQ (N.r i hi).1 (N.r 0 (by decide)).1 z
  · exact WordAt.neQ (N.r i hi).1 (N.r 1 (by decide)).1 z
  · exact WordAt.neQ (N.r i hi).1 (N.r 2 (by decide)).1 z
theorem unkP (N : Nm r p) {i : Nat} (hi : i < 3) : p i ++ Str.ofString "Q" ∉ pasNs (WJ r p) := fun z => by
  rw [pJ] at z
  simp only [List.mem_cons, List.not_mem_nil, or_false] at z
  rcases z with z | z | z
  · exact WordAt.neQ (N.p i hi).1 (N.p 0 (by decide)).1 z
  · exact WordAt.neQ (N.p i hi).1 (N.p 1 (by decide)).1 z
  · exact WordAt.neQ (N.p i hi).1 (N.p 2 (by decide)).1 z
theorem mk_ok (N : Nm r p) {i : Nat} (hi : i < 3) (hm : Str.ofString "make" ∈ cs) (hl : nm ≤ (i : Int)) : rdPl1 (WJ r p) cs nm nt (mkL (r i) 3 (p 0)) = .ok (cs, (i : Int) + 1, nt) := by
  rw [pl1_mk rfl hm]
  unfold rdMake
  rw [known_j (r := 1) rfl (N.r i hi).1.ok (at3 N hi).1 (at3 N hi).2 hl, seq2_okv, fld_at (r := 2) (m := 3) rfl (by decide +kernel) rfl (by decide), if_neg (by show ¬ ((3 : Int) < 0 ∨ (90 : Int) < 3); decide), seq2_okv, choice_of (r := 4) rfl (by decide +kernel) List.mem_cons_self, seq2_okv, known_j (r := 5) rfl (N.p 0 (by decide)).1.ok (at3p N (by decide)).1 (at3p N (by decide)).2 (by decide), seq2_okv, seq2_okv]
  rfl
theorem mk_oo (N : Nm r p) {i : Nat} (hi : i < 3) (hm : Str.ofString "make" ∈ cs) (hl : (i : Int) < nm) : rdPl1 (WJ r p) cs nm nt (mkL (r i) 3 (p 0)) = .error (1, lOo) := by
  rw [pl1_mk rfl hm]
  unfold rdMake
  rw [known_o (r := 1) rfl (N.r i hi).1.ok (at3 N hi).1 (at3 N hi).2 hl]
  rfl
theorem tk_ok (N : Nm r p) {i : Nat} (hi : i < 3) (hm : Str.ofString "take" ∈ cs) (hl : nt ≤ (i : Int)) : rdPl1 (WJ r p) cs nm nt (tkL (p i) 0) = .ok ([Str.ofString "take"], nm, (i : Int) + 1) := by
  rw [pl1_tk rfl hm]
  unfold rdTake
  rw [known_j (r := 1) rfl (N.p i hi).1.ok (at3p N hi).1 (at3p N hi).2 hl, seq2_okv, fld_at (r := 2) (m := 0) rfl (by decide +kernel) rfl (by decide), if_neg (by decide), seq2_okv, seq2_okv]
  rfl
theorem tk_oo (N : Nm r p) {i : Nat} (hi : i < 3) (hm : Str.ofString "take" ∈ cs) (hl : (i : Int) < nt) : rdPl1 (WJ r p) cs nm nt (tkL (p i) 0) = .error (1, lOo) := by
  rw [pl1_tk rfl hm]
  unfold rdTake
  rw [known_o (r := 1) rfl (N.p i hi).1.ok (at3p N hi).1 (at3p N hi).2 hl]
  rfl
/-- the plans, each with the fault -/
abbrev CaseJ := List (List Str) × Int × Int × Str
def casesJ (r p : Nat → Str) : List CaseJ := [
  ([mkL (r 1) 3 (p 0), mkL (r 0) 3 (p 0)], 2, 6, lOo),
  ([mkL (r 1) 3 (p 0), mkL (r 1) 3 (p 0)], 2, 6, lOo),
  ([tkL (p 2) 0, tkL (p 1) 0], 2, 6, lOo),
  ([tkL (p 0) 0, mkL (r 0) 3 (p 0)], 2, 1, unW),
  ([mkL (r 0) 91 (p 0)], 1, 10 + ((r 0).length : Int), oor),
  ([tkL (p 0) 100], 1, 10 + ((p 0).length : Int), oor),
  ([mkL (r 0 ++ Str.ofString "Q") 3 (p 0)], 1, 6, "unknown name"),
  ([mkL (r 0) 3 (p 0 ++ Str.ofString "Q")], 1, 17 + ((r 0).length : Int), "unknown name"),
  ([[Str.ofString "make", r 0, Str.ofString "at", num 3, Str.ofString "with"]], 1, 17 + ((r 0).length : Int), "missing word"),
  ([[Str.ofString "take", p 0, Str.ofString "on", num 0, num 0]], 1, 12 + ((p 0).length : Int), unW),
  ([[Str.ofString ""], tkL (p 0) 0], 1, 1, emW),
  ([[Str.ofString "hold", r 0]], 1, 1, unW),
  ([[Str.ofString "take", p 0, Str.ofString "on", num 0, Str.ofString ""]], 1, 12 + ((p 0).length : Int), emW)]
structure CaseJOk (r p : Nat → Str) (c : CaseJ) : Prop where
  wd : ∀ l ∈ c.1, LnW l
  sz : c.1.length ≤ 2
  er : rdPlan (WJ r p) c.1 1 mkTk 0 0 = .error (c.2.1, c.2.2.1, c.2.2.2)
  st : PyData.strOk c.2.2.2 = true
theorem colK {ws : List Str} {k : Nat} {c : Int} (h : 1 + (((ws.take k).map fun w => (w.length : Int) + 1).sum) = c) : colW ws k = c := h
theorem l_make : (Str.ofString "make" : Str).length = 4 := by decide +kernel
theorem l_take : (Str.ofString "take" : Str).length = 4 := by decide +kernel
theorem l_at : (Str.ofString "at" : Str).length = 2 := by decide +kernel
theorem l_on : (Str.ofString "on" : Str).length = 2 := by decide +kernel
theorem l_with : (Str.ofString "with" : Str).length = 4 := by decide +kernel
theorem l_n3 : (num 3 : Str).length = 1 := by decide +kernel
theorem l_n0 : (num 0 : Str).length = 1 := by decide +kernel
theorem WordAt.wdx {i : Nat} {u : Str} (h : WordAt i u) : WdX u := h.ok.wd.x
theorem mem2 {α : Type} {P : α → Prop} {a b : α} (h : P a) (k : P b) : ∀ x ∈ [a, b], P x := List.forall_mem_cons.mpr ⟨h, List.forall_mem_cons.mpr ⟨k, fun _ z => absurd z List.not_mem_nil⟩⟩
theorem mem1 {α : Type} {P : α → Prop} {a : α} (h : P a) : ∀ x ∈ [a], P x := List.forall_mem_cons.mpr ⟨h, fun _ z => absurd z List.not_mem_nil⟩
theorem lnw_mk {u v : Str} {s : Int} (hu : WdX u) (hv : WdX v) (hs : 0 ≤ s ∧ s < 10000000) : LnW (mkL u s v) := ⟨List.cons_ne_nil _ _, by
  repeat (refine List.forall_mem_cons.mpr ⟨by first | exact hu | exact hv | exact (num_wd hs.1 hs.2).x | exact lit_wd (by decide +kernel), ?_⟩)
  exact fun _ z => absurd z List.not_mem_nil, by show 6 ≤ 400; decide⟩
theorem lnw_tk {u : Str} {s : Int} (hu : WdX u) (hs : 0 ≤ s ∧ s < 10000000) : LnW (tkL u s) := ⟨List.cons_ne_nil _ _, by
  repeat (refine List.forall_mem_cons.mpr ⟨by first | exact hu | exact (num_wd hs.1 hs.2).x | exact lit_wd (by decide +kernel), ?_⟩)
  exact fun _ z => absurd z List.not_mem_nil, by show 4 ≤ 400; decide⟩
theorem col3 {ws : List Str} {x u y : Str} (h : ws.take 3 = [x, u, y]) (hx : x.length = 4) (hy : y.length = 2) : colW ws 3 = 10 + (u.length : Int) := by
  refine colK ?_
  rw [h]
  show 1 + (((x.length : Int) + 1) + (((u.length : Int) + 1) + (((y.length : Int) + 1) + 0))) = _
  omega
theorem col4 {ws : List Str} {x u y z : Str} (h : ws.take 4 = [x, u, y, z]) (hx : x.length = 4) (hy : y.length = 2) (hz : z.length = 1) : colW ws 4 = 12 + (u.length : Int) := by
  refine colK ?_
  rw [h]
  show 1 + (((x.length : Int) + 1) + (((u.length : Int) + 1) + (((y.length : Int) + 1) + (((z.length : Int) + 1) + 0)))) = _
  omega
theorem col5 {ws : List Str} {x u y z t : Str} (h : ws.take 5 = [x, u, y, z, t]) (hx : x.length = 4) (hy : y.length = 2) (hz : z.length = 1) (ht : t.length = 4) : colW ws 5 = 17 + (u.length : Int) := by
  refine colK ?_
  rw [h]
  show 1 + (((x.length : Int) + 1) + (((u.length : Int) + 1) + (((y.length : Int) + 1) + (((z.length : Int) + 1) + (((t.length : Int) + 1) + 0))))) = _
  omega
theorem col1 {ws : List Str} {x : Str} (h : ws.take 1 = [x]) (hx : x.length = 4) : colW ws 1 = 6 := by
  refine colK ?_
  rw [h]
  show 1 + (((x.length : Int) + 1) + 0) = _
  omega
theorem col0 {ws : List Str} : colW ws 0 = 1 := rfl
theorem so_lOo : PyData.strOk lOo = true := by decide +kernel
theorem so_unW : PyData.strOk unW = true := by decide +kernel
theorem so_emW : PyData.strOk emW = true := by decide +kernel
theorem so_oor : PyData.strOk oor = true := by decide +kernel
theorem so_unk : PyData.strOk ("unknown name" : Str) = true := by decide +kernel
theorem so_mis : PyData.strOk ("missing word" : Str) = true := by decide +kernel
theorem casesJ_ok (N : Nm r p) : ∀ c ∈ casesJ r p, CaseJOk r p c := by
  have R := fun i hi => WordAt.wdx (N.r i hi).1
  have Pw := fun i hi => WordAt.wdx (N.p i hi).1
  have m0 : Str.ofString "make" ∈ mkTk := List.mem_cons_self
  have m1 : Str.ofString "take" ∈ mkTk := List.mem_cons_of_mem _ List.mem_cons_self
  have n3 : (0 : Int) ≤ 3 ∧ (3 : Int) < 10000000 := by decide
  have n0 : (0 : Int) ≤ 0 ∧ (0 : Int) < 10000000 := by decide
  unfold casesJ
  refine List.forall_mem_cons.mpr ⟨?_, List.forall_mem_cons.mpr ⟨?_, List.forall_mem_cons.mpr ⟨?_, List.forall_mem_cons.mpr ⟨?_, List.forall_mem_cons.mpr ⟨?_, List.forall_mem_cons.mpr ⟨?_, List.forall_mem_cons.mpr ⟨?_, List.forall_mem_cons.mpr ⟨?_, List.forall_mem_cons.mpr ⟨?_, List.forall_mem_cons.mpr ⟨?_, List.forall_mem_cons.mpr ⟨?_, List.forall_mem_cons.mpr ⟨?_, List.forall_mem_cons.mpr ⟨?_, fun _ z => absurd z List.not_mem_nil⟩⟩⟩⟩⟩⟩⟩⟩⟩⟩⟩⟩⟩
  · exact ⟨mem2 (lnw_mk (R 1 (by decide)) (Pw 0 (by decide)) n3) (lnw_mk (R 0 (by decide)) (Pw 0 (by decide)) n3), Nat.le_refl _, (plan_ok (mk_ok N (i := 1) (by decide) m0 (by decide))).trans (plan_er (mk_oo N (i := 0) (by decide) m0 (by decide)) (col1 rfl l_make)), by first | exact so_lOo | exact so_unW | exact so_emW | exact so_oor | exact so_unk | exact so_mis⟩
  · exact ⟨mem2 (lnw_mk (R 1 (by decide)) (Pw 0 (by decide)) n3) (lnw_mk (R 1 (by decide)) (Pw 0 (by decide)) n3), Nat.le_refl _, (plan_ok (mk_ok N (i := 1) (by decide) m0 (by decide))).trans (plan_er (mk_oo N (i := 1) (by decide) m0 (by decide)) (col1 rfl l_make)), by first | exact so_lOo | exact so_unW | exact so_emW | exact so_oor | exact so_unk | exact so_mis⟩
  · exact ⟨mem2 (lnw_tk (Pw 2 (by decide)) n0) (lnw_tk (Pw 1 (by decide)) n0), Nat.le_refl _, (plan_ok (tk_ok N (i := 2) (by decide) m1 (by decide))).trans (plan_er (tk_oo N (i := 1) (by decide) List.mem_cons_self (by decide)) (col1 rfl l_take)), by first | exact so_lOo | exact so_unW | exact so_emW | exact so_oor | exact so_unk | exact so_mis⟩
  · exact ⟨mem2 (lnw_tk (Pw 0 (by decide)) n0) (lnw_mk (R 0 (by decide)) (Pw 0 (by decide)) n3), Nat.le_refl _, (plan_ok (tk_ok N (i := 0) (by decide) m1 (by decide))).trans (plan_er (pl1_er (choice_no (x := Str.ofString "make") rfl (by decide +kernel) (by decide +kernel))) col0), by first | exact so_lOo | exact so_unW | exact so_emW | exact so_oor | exact so_unk | exact so_mis⟩
  · refine ⟨mem1 (lnw_mk (R 0 (by decide)) (Pw 0 (by decide)) (by decide)), by first | exact Nat.le_succ 1 | exact Nat.le_refl 2, plan_er (e := (3, oor)) ?_ (col3 rfl l_make l_at), by first | exact so_lOo | exact so_unW | exact so_emW | exact so_oor | exact so_unk | exact so_mis⟩
    rw [pl1_mk rfl m0]
    unfold rdMake
    rw [known_j (r := 1) rfl (N.r 0 (by decide)).1.ok (at3 N (by decide)).1 (at3 N (by decide)).2 (by decide), seq2_okv, fld_at (r := 2) (m := 91) rfl (by decide +kernel) rfl (by decide), if_pos (by show (91 : Int) < 0 ∨ (90 : Int) < 91; decide)]
    rfl
  · refine ⟨mem1 (lnw_tk (Pw 0 (by decide)) (by decide)), by first | exact Nat.le_succ 1 | exact Nat.le_refl 2, plan_er (e := (3, oor)) ?_ (col3 rfl l_take l_on), by first | exact so_lOo | exact so_unW | exact so_emW | exact so_oor | exact so_unk | exact so_mis⟩
    rw [pl1_tk rfl m1]
    unfold rdTake
    rw [known_j (r := 1) rfl (N.p 0 (by decide)).1.ok (at3p N (by decide)).1 (at3p N (by decide)).2 (by decide), seq2_okv, fld_at (r := 2) (m := 100) rfl (by decide +kernel) rfl (by decide), if_pos (by decide)]
    rfl
  · have q0 := WordAt.okQ (N.r 0 (by decide)).1 (N.r 0 (by decide)).2
    refine ⟨mem1 (lnw_mk q0.wd.x (Pw 0 (by decide)) n3), by first | exact Nat.le_succ 1 | exact Nat.le_refl 2, plan_er (e := (1, "unknown name")) ?_ (col1 rfl l_make), by first | exact so_lOo | exact so_unW | exact so_emW | exact so_oor | exact so_unk | exact so_mis⟩
    rw [pl1_mk rfl m0]
    unfold rdMake
    rw [known_u (r := 1) rfl q0 (unkR N (by decide))]
    rfl
  · have q0 := WordAt.okQ (N.p 0 (by decide)).1 (N.p 0 (by decide)).2
    refine ⟨mem1 (lnw_mk (R 0 (by decide)) q0.wd.x n3), by first | exact Nat.le_succ 1 | exact Nat.le_refl 2, plan_er (e := (5, "unknown name")) ?_ (col5 rfl l_make l_at l_n3 l_with), by first | exact so_lOo | exact so_unW | exact so_emW | exact so_oor | exact so_unk | exact so_mis⟩
    rw [pl1_mk rfl m0]
    unfold rdMake
    rw [known_j (r := 1) rfl (N.r 0 (by decide)).1.ok (at3 N (by decide)).1 (at3 N (by decide)).2 (by decide), seq2_okv, fld_at (r := 2) (m := 3) rfl (by decide +kernel) rfl (by decide), if_neg (by show ¬ ((3 : Int) < 0 ∨ (90 : Int) < 3); decide), seq2_okv, choice_of (r := 4) rfl (by decide +kernel) List.mem_cons_self, seq2_okv, known_u (r := 5) rfl q0 (unkP N (by decide))]
    rfl
  · refine ⟨mem1 ⟨List.cons_ne_nil _ _, ?_, by show 5 ≤ 400; decide⟩, by first | exact Nat.le_succ 1 | exact Nat.le_refl 2, plan_er (e := (5, "missing word")) ?_ (col5 rfl l_make l_at l_n3 l_with), by first | exact so_lOo | exact so_unW | exact so_emW | exact so_oor | exact so_unk | exact so_mis⟩
    · have h0 := R 0 (by decide)
      repeat (refine List.forall_mem_cons.mpr ⟨by first | exact h0 | exact lit_wd (by decide +kernel), ?_⟩)
      exact fun _ z => absurd z List.not_mem_nil
    rw [pl1_mk rfl m0]
    unfold rdMake
    rw [known_j (r := 1) rfl (N.r 0 (by decide)).1.ok (at3 N (by decide)).1 (at3 N (by decide)).2 (by decide), seq2_okv, fld_at (r := 2) (m := 3) rfl (by decide +kernel) rfl (by decide), if_neg (by show ¬ ((3 : Int) < 0 ∨ (90 : Int) < 3); decide), seq2_okv, choice_of (r := 4) rfl (by decide +kernel) List.mem_cons_self, seq2_okv]
    rfl
  · refine ⟨mem1 ⟨List.cons_ne_nil _ _, ?_, by show 5 ≤ 400; decide⟩, by first | exact Nat.le_succ 1 | exact Nat.le_refl 2, plan_er (e := (4, unW)) ?_ (col4 rfl l_take l_on l_n0), by first | exact so_lOo | exact so_unW | exact so_emW | exact so_oor | exact so_unk | exact so_mis⟩
    · have h0 := Pw 0 (by decide)
      repeat (refine List.forall_mem_cons.mpr ⟨by first | exact h0 | exact lit_wd (by decide +kernel), ?_⟩)
      exact fun _ z => absurd z List.not_mem_nil
    rw [pl1_tk rfl m1]
    unfold rdTake
    rw [known_j (r := 1) rfl (N.p 0 (by decide)).1.ok (at3p N (by decide)).1 (at3p N (by decide)).2 (by decide), seq2_okv, fld_at (r := 2) (m := 0) rfl (by decide +kernel) rfl (by decide), if_neg (by decide), seq2_okv, seq2_okv]
    unfold rdFinish
    rw [if_pos (by show 4 < 5; decide), due_at (u := num 0) rfl (by decide +kernel)]
    rfl
  · refine ⟨mem2 ⟨List.cons_ne_nil _ _, mem1 (lit_wd (by decide +kernel)), by decide⟩ (lnw_tk (Pw 0 (by decide)) n0), by first | exact Nat.le_succ 1 | exact Nat.le_refl 2, plan_er (e := (0, emW)) (pl1_er ?_) col0, by first | exact so_lOo | exact so_unW | exact so_emW | exact so_oor | exact so_unk | exact so_mis⟩
    rfl
  · refine ⟨mem1 ⟨List.cons_ne_nil _ _, mem2 (lit_wd (by decide +kernel)) (R 0 (by decide)), by show 2 ≤ 400; decide⟩, by first | exact Nat.le_succ 1 | exact Nat.le_refl 2, plan_er (e := (0, unW)) (pl1_er (choice_no (x := Str.ofString "hold") rfl (by decide +kernel) (by decide +kernel))) col0, by first | exact so_lOo | exact so_unW | exact so_emW | exact so_oor | exact so_unk | exact so_mis⟩
  · refine ⟨mem1 ⟨List.cons_ne_nil _ _, ?_, by show 5 ≤ 400; decide⟩, by first | exact Nat.le_succ 1 | exact Nat.le_refl 2, plan_er (e := (4, emW)) ?_ (col4 rfl l_take l_on l_n0), by first | exact so_lOo | exact so_unW | exact so_emW | exact so_oor | exact so_unk | exact so_mis⟩
    · have h0 := Pw 0 (by decide)
      repeat (refine List.forall_mem_cons.mpr ⟨by first | exact h0 | exact lit_wd (by decide +kernel), ?_⟩)
      exact fun _ z => absurd z List.not_mem_nil
    rw [pl1_tk rfl m1]
    unfold rdTake
    rw [known_j (r := 1) rfl (N.p 0 (by decide)).1.ok (at3p N (by decide)).1 (at3p N (by decide)).2 (by decide), seq2_okv, fld_at (r := 2) (m := 0) rfl (by decide +kernel) rfl (by decide), if_neg (by decide), seq2_okv, seq2_okv]
    unfold rdFinish
    rw [if_pos (by show 4 < 5; decide)]
    rfl
end
end DP
namespace DP
open PySem PySem.Spec PyProof.Rows L2
abbrev s__law_cases : Stmt := topS 55
theorem sc__law_cases : FnScope ["_law_r", "_law_p"] ["_law_r", "_law_p"] (defScope s__law_cases) := ⟨rfl, rfl, rfl, by decide +kernel, rfl, by decide +kernel, by decide +kernel⟩
section
variable {r p : Nat → Str}
theorem rj0 : (Str.ofString "make " ++ r 1 ++ Str.ofString " at 3 with " ++ p 0 : Str) = row (mkL (r 1) 3 (p 0)) := by
  refine TL.ext_tl ?_
  show tl _ = tl (row (mkL (r 1) 3 (p 0)))
  unfold row
  rw [show ∀ ws, tl (Str.join sp ws) = TL.joinL (tl sp) (ws.map tl) from fun ws => TL.tl_join _ _]
  simp only [tl_app, List.append_assoc, List.map_cons, List.map_nil]
  generalize tl (p 0) = z0
  generalize tl (r 1) = z1
  kernel_rfl
theorem rj1 : (Str.ofString "make " ++ r 0 ++ Str.ofString " at 3 with " ++ p 0 : Str) = row (mkL (r 0) 3 (p 0)) := by
  refine TL.ext_tl ?_
  show tl _ = tl (row (mkL (r 0) 3 (p 0)))
  unfold row
  rw [show ∀ ws, tl (Str.join sp ws) = TL.joinL (tl sp) (ws.map tl) from fun ws => TL.tl_join _ _]
  simp only [tl_app, List.append_assoc, List.map_cons, List.map_nil]
  generalize tl (p 0) = z0
  generalize tl (r 0) = z1
  kernel_rfl
theorem rj2 : (Str.ofString "take " ++ p 2 ++ Str.ofString " on 0" : Str) = row (tkL (p 2) 0) := by
  refine TL.ext_tl ?_
  show tl _ = tl (row (tkL (p 2) 0))
  unfold row
  rw [show ∀ ws, tl (Str.join sp ws) = TL.joinL (tl sp) (ws.map tl) from fun ws => TL.tl_join _ _]
  simp only [tl_app, List.append_assoc, List.map_cons, List.map_nil]
  generalize tl (p 2) = z0
  kernel_rfl
theorem rj3 : (Str.ofString "take " ++ p 1 ++ Str.ofString " on 0" : Str) = row (tkL (p 1) 0) := by
  refine TL.ext_tl ?_
  show tl _ = tl (row (tkL (p 1) 0))
  unfold row
  rw [show ∀ ws, tl (Str.join sp ws) = TL.joinL (tl sp) (ws.map tl) from fun ws => TL.tl_join _ _]
  simp only [tl_app, List.append_assoc, List.map_cons, List.map_nil]
  generalize tl (p 1) = z0
  kernel_rfl
theorem rj4 : (Str.ofString "take " ++ p 0 ++ Str.ofString " on 0" : Str) = row (tkL (p 0) 0) := by
  refine TL.ext_tl ?_
  show tl _ = tl (row (tkL (p 0) 0))
  unfold row
  rw [show ∀ ws, tl (Str.join sp ws) = TL.joinL (tl sp) (ws.map tl) from fun ws => TL.tl_join _ _]
  simp only [tl_app, List.append_assoc, List.map_cons, List.map_nil]
  generalize tl (p 0) = z0
  kernel_rfl
theorem rj5 : (Str.ofString "make " ++ r 0 ++ Str.ofString " at 91 with " ++ p 0 : Str) = row (mkL (r 0) 91 (p 0)) := by
  refine TL.ext_tl ?_
  show tl _ = tl (row (mkL (r 0) 91 (p 0)))
  unfold row
  rw [show ∀ ws, tl (Str.join sp ws) = TL.joinL (tl sp) (ws.map tl) from fun ws => TL.tl_join _ _]
  simp only [tl_app, List.append_assoc, List.map_cons, List.map_nil]
  generalize tl (p 0) = z0
  generalize tl (r 0) = z1
  kernel_rfl
theorem rj6 : (Str.ofString "take " ++ p 0 ++ Str.ofString " on 100" : Str) = row (tkL (p 0) 100) := by
  refine TL.ext_tl ?_
  show tl _ = tl (row (tkL (p 0) 100))
  unfold row
  rw [show ∀ ws, tl (Str.join sp ws) = TL.joinL (tl sp) (ws.map tl) from fun ws => TL.tl_join _ _]
  simp only [tl_app, List.append_assoc, List.map_cons, List.map_nil]
  generalize tl (p 0) = z0
  kernel_rfl
theorem rj7 : (Str.ofString "make " ++ r 0 ++ Str.ofString "Q at 3 with " ++ p 0 : Str) = row (mkL (r 0 ++ Str.ofString "Q") 3 (p 0)) := by
  refine TL.ext_tl ?_
  show tl _ = tl (row (mkL (r 0 ++ Str.ofString "Q") 3 (p 0)))
  unfold row
  rw [show ∀ ws, tl (Str.join sp ws) = TL.joinL (tl sp) (ws.map tl) from fun ws => TL.tl_join _ _]
  simp only [tl_app, List.append_assoc, List.map_cons, List.map_nil, TL.joinL]
  generalize tl (p 0) = z0
  generalize tl (r 0) = z1
  kernel_rfl
theorem rj8 : (Str.ofString "make " ++ r 0 ++ Str.ofString " at 3 with " ++ p 0 ++ Str.ofString "Q" : Str) = row (mkL (r 0) 3 (p 0 ++ Str.ofString "Q")) := by
  refine TL.ext_tl ?_
  show tl _ = tl (row (mkL (r 0) 3 (p 0 ++ Str.ofString "Q")))
  unfold row
  rw [show ∀ ws, tl (Str.join sp ws) = TL.joinL (tl sp) (ws.map tl) from fun ws => TL.tl_join _ _]
  simp only [tl_app, List.append_assoc, List.map_cons, List.map_nil, TL.joinL]
  generalize tl (p 0) = z0
  generalize tl (r 0) = z1
  kernel_rfl
theorem rj9 : (Str.ofString "make " ++ r 0 ++ Str.ofString " at 3 with" : Str) = row ([Str.ofString "make", r 0, Str.ofString "at", num 3, Str.ofString "with"]) := by
  refine TL.ext_tl ?_
  show tl _ = tl (row ([Str.ofString "make", r 0, Str.ofString "at", num 3, Str.ofString "with"]))
  unfold row
  rw [show ∀ ws, tl (Str.join sp ws) = TL.joinL (tl sp) (ws.map tl) from fun ws => TL.tl_join _ _]
  simp only [tl_app, List.append_assoc, List.map_cons, List.map_nil]
  generalize tl (r 0) = z0
  kernel_rfl
theorem rj10 : (Str.ofString "take " ++ p 0 ++ Str.ofString " on 0 0" : Str) = row ([Str.ofString "take", p 0, Str.ofString "on", num 0, num 0]) := by
  refine TL.ext_tl ?_
  show tl _ = tl (row ([Str.ofString "take", p 0, Str.ofString "on", num 0, num 0]))
  unfold row
  rw [show ∀ ws, tl (Str.join sp ws) = TL.joinL (tl sp) (ws.map tl) from fun ws => TL.tl_join _ _]
  simp only [tl_app, List.append_assoc, List.map_cons, List.map_nil]
  generalize tl (p 0) = z0
  kernel_rfl
theorem rj11 : (Str.ofString "" : Str) = row ([Str.ofString ""]) := by decide +kernel
theorem rj12 : (Str.ofString "hold " ++ r 0 : Str) = row ([Str.ofString "hold", r 0]) := by
  refine TL.ext_tl ?_
  show tl _ = tl (row ([Str.ofString "hold", r 0]))
  unfold row
  rw [show ∀ ws, tl (Str.join sp ws) = TL.joinL (tl sp) (ws.map tl) from fun ws => TL.tl_join _ _]
  simp only [tl_app, List.append_assoc, List.map_cons, List.map_nil]
  generalize tl (r 0) = z0
  kernel_rfl
theorem rj13 : (Str.ofString "take " ++ p 0 ++ Str.ofString " on 0 " : Str) = row ([Str.ofString "take", p 0, Str.ofString "on", num 0, Str.ofString ""]) := by
  refine TL.ext_tl ?_
  show tl _ = tl (row ([Str.ofString "take", p 0, Str.ofString "on", num 0, Str.ofString ""]))
  unfold row
  rw [show ∀ ws, tl (Str.join sp ws) = TL.joinL (tl sp) (ws.map tl) from fun ws => TL.tl_join _ _]
  simp only [tl_app, List.append_assoc, List.map_cons, List.map_nil]
  generalize tl (p 0) = z0
  kernel_rfl
end
def CaseAt (H : Hp) (v : V) (c : CaseJ) : Prop := ∃ a l, v = .ref a ∧ H a = some (.tup [.ref l, .int c.2.1, .int c.2.2.1, .str c.2.2.2]) ∧ H l = some (.lst ((c.1.map row).map V.str))
theorem CaseAt.same {H H' : Hp} {v : V} {c : CaseJ} (h : CaseAt H v c) (s : Same H H') : CaseAt H' v c := by
  obtain ⟨a, l, h1, h2, h3⟩ := h
  exact ⟨a, l, h1, s _ _ h2, s _ _ h3⟩
theorem lstJ1 {x : Str} {a : List Str} (e : x = row a) : ([V.str x] : List V) = (([a].map row).map V.str) := by rw [e]; rfl
theorem lstJ2 {x y : Str} {a b : List Str} (e : x = row a) (f : y = row b) : ([V.str x, V.str y] : List V) = (([a, b].map row).map V.str) := by rw [e, f]; rfl
theorem caseJ_new {H : Hp} {l t : Addr} {xs : List V} {c : CaseJ} {i j : Int} {s : Str} (hl : H l = none) (ht : (upd H l (.lst xs)) t = none) (e : xs = (c.1.map row).map V.str) (e1 : i = c.2.1) (e2 : j = c.2.2.1) (e3 : s = c.2.2.2) :
    CaseAt (upd (upd H l (.lst xs)) t (.tup [.ref l, .int i, .int j, .str s])) (.ref t) c ∧ Same H (upd (upd H l (.lst xs)) t (.tup [.ref l, .int i, .int j, .str s])) := by
  subst e1 e2 e3 e
  have n : l ≠ t := fun z => by rw [← z, upd_same] at ht; cases ht
  exact ⟨⟨t, l, rfl, upd_same, by rw [upd_ne n]; exact upd_same⟩, (same_new hl _).trans (same_new ht _)⟩
section
variable {P : Program} {w : World} {K : PySem.W.Frag} {mg : Str → Option Value} {base : Heap}
def spCasesJ (K : PySem.W.Frag) : Sp := fun vs H Q _ => ∃ (lr lp : Addr) (r p : Nat → Str), vs = [.ref lr, .ref lp] ∧ SqL K H lr [.str (r 0), .str (r 1), .str (r 2)] ∧ SqL K H lp [.str (p 0), .str (p 1), .str (p 2)] ∧ (∀ i, i < 3 → (r i).length ≤ 10) ∧ (∀ i, i < 3 → (p i).length ≤ 10) ∧
  ∀ a xs H', Same H H' → H' a = some (.lst xs) → xs.length = 13 → (∀ (i : Nat) c, (casesJ r p)[i]? = some c → ∃ v, xs[i]? = some v ∧ CaseAt H' v c) → Q (.ref a) H'
set_option maxHeartbeats 16000000 in
theorem d_cases (B : Bt mg) (A : At K mg "_law_cases" s__law_cases ["_law_r", "_law_p"]) : DefOk P w K mg base CX0 1 "_law_cases" ["_law_r", "_law_p"] (spCasesJ K) := by
  refine A.ok sc__law_cases (fun vs H Q E h => ?_) (fun f cdv A outer s H vs Q E hr h => ?_)
  · obtain ⟨lr, lp, r, p, rfl, _⟩ := h
    rfl
  obtain ⟨lr, lp, r, p, rfl, hR, hP, zr, zp, q⟩ := h
  refine ⟨_, pss_one (ps_ret (pe_lst (pa_cons (pe_tup (pa_cons (pe_lst (pa_cons (pe_op op_add_str (pe_op op_add_str (pe_op op_add_str pe_str (pe_ix ix_list (pv 0) pe_int (fun _ _ => rfl))) pe_str) (pe_ix ix_list (pv 1) pe_int (fun _ _ => rfl))) (pa_cons (pe_op op_add_str (pe_op op_add_str (pe_op op_add_str pe_str (pe_ix ix_list (pv 0) pe_int (fun _ _ => rfl))) pe_str) (pe_ix ix_list (pv 1) pe_int (fun _ _ => rfl))) pa_nil))) (pa_cons pe_int (pa_cons pe_int (pa_cons pe_str pa_nil))))) (pa_cons (pe_tup (pa_cons (pe_lst (pa_cons (pe_op op_add_str (pe_op op_add_str (pe_op op_add_str pe_str (pe_ix ix_list (pv 0) pe_int (fun _ _ => rfl))) pe_str) (pe_ix ix_list (pv 1) pe_int (fun _ _ => rfl))) (pa_cons (pe_op op_add_str (pe_op op_add_str (pe_op op_add_str pe_str (pe_ix ix_list (pv 0) pe_int (fun _ _ => rfl))) pe_str) (pe_ix ix_list (pv 1) pe_int (fun _ _ => rfl))) pa_nil))) (pa_cons pe_int (pa_cons pe_int (pa_cons pe_str pa_nil))))) (pa_cons (pe_tup (pa_cons (pe_lst (pa_cons (pe_op op_add_str (pe_op op_add_str pe_str (pe_ix ix_list (pv 1) pe_int (fun _ _ => rfl))) pe_str) (pa_cons (pe_op op_add_str (pe_op op_add_str pe_str (pe_ix ix_list (pv 1) pe_int (fun _ _ => rfl))) pe_str) pa_nil))) (pa_cons pe_int (pa_cons pe_int (pa_cons pe_str pa_nil))))) (pa_cons (pe_tup (pa_cons (pe_lst (pa_cons (pe_op op_add_str (pe_op op_add_str pe_str (pe_ix ix_list (pv 1) pe_int (fun _ _ => rfl))) pe_str) (pa_cons (pe_op op_add_str (pe_op op_add_str (pe_op op_add_str pe_str (pe_ix ix_list (pv 0) pe_int (fun _ _ => rfl))) pe_str) (pe_ix ix_list (pv 1) pe_int (fun _ _ => rfl))) pa_nil))) (pa_cons pe_int (pa_cons pe_int (pa_cons pe_str pa_nil))))) (pa_cons (pe_tup (pa_cons (pe_lst (pa_cons (pe_op op_add_str (pe_op op_add_str (pe_op op_add_str pe_str (pe_ix ix_list (pv 0) pe_int (fun _ _ => rfl))) pe_str) (pe_ix ix_list (pv 1) pe_int (fun _ _ => rfl))) pa_nil)) (pa_cons pe_int (pa_cons (pe_op op_add pe_int (pe_callB (call_len_str) (by rfl) B.len (by decide +kernel) (pa_cons (pe_ix ix_list (pv 0) pe_int (fun _ _ => rfl)) pa_nil))) (pa_cons pe_str pa_nil))))) (pa_cons (pe_tup (pa_cons (pe_lst (pa_cons (pe_op op_add_str (pe_op op_add_str pe_str (pe_ix ix_list (pv 1) pe_int (fun _ _ => rfl))) pe_str) pa_nil)) (pa_cons pe_int (pa_cons (pe_op op_add pe_int (pe_callB (call_len_str) (by rfl) B.len (by decide +kernel) (pa_cons (pe_ix ix_list (pv 1) pe_int (fun _ _ => rfl)) pa_nil))) (pa_cons pe_str pa_nil))))) (pa_cons (pe_tup (pa_cons (pe_lst (pa_cons (pe_op op_add_str (pe_op op_add_str (pe_op op_add_str pe_str (pe_ix ix_list (pv 0) pe_int (fun _ _ => rfl))) pe_str) (pe_ix ix_list (pv 1) pe_int (fun _ _ => rfl))) pa_nil)) (pa_cons pe_int (pa_cons pe_int (pa_cons pe_str pa_nil))))) (pa_cons (pe_tup (pa_cons (pe_lst (pa_cons (pe_op op_add_str (pe_op op_add_str (pe_op op_add_str (pe_op op_add_str pe_str (pe_ix ix_list (pv 0) pe_int (fun _ _ => rfl))) pe_str) (pe_ix ix_list (pv 1) pe_int (fun _ _ => rfl))) pe_str) pa_nil)) (pa_cons pe_int (pa_cons (pe_op op_add pe_int (pe_callB (call_len_str) (by rfl) B.len (by decide +kernel) (pa_cons (pe_ix ix_list (pv 0) pe_int (fun _ _ => rfl)) pa_nil))) (pa_cons pe_str pa_nil))))) (pa_cons (pe_tup (pa_cons (pe_lst (pa_cons (pe_op op_add_str (pe_op op_add_str pe_str (pe_ix ix_list (pv 0) pe_int (fun _ _ => rfl))) pe_str) pa_nil)) (pa_cons pe_int (pa_cons (pe_op op_add pe_int (pe_callB (call_len_str) (by rfl) B.len (by decide +kernel) (pa_cons (pe_ix ix_list (pv 0) pe_int (fun _ _ => rfl)) pa_nil))) (pa_cons pe_str pa_nil))))) (pa_cons (pe_tup (pa_cons (pe_lst (pa_cons (pe_op op_add_str (pe_op op_add_str pe_str (pe_ix ix_list (pv 1) pe_int (fun _ _ => rfl))) pe_str) pa_nil)) (pa_cons pe_int (pa_cons (pe_op op_add pe_int (pe_callB (call_len_str) (by rfl) B.len (by decide +kernel) (pa_cons (pe_ix ix_list (pv 1) pe_int (fun _ _ => rfl)) pa_nil))) (pa_cons pe_str pa_nil))))) (pa_cons (pe_tup (pa_cons (pe_lst (pa_cons pe_str (pa_cons (pe_op op_add_str (pe_op op_add_str pe_str (pe_ix ix_list (pv 1) pe_int (fun _ _ => rfl))) pe_str) pa_nil))) (pa_cons pe_int (pa_cons pe_int (pa_cons pe_str pa_nil))))) (pa_cons (pe_tup (pa_cons (pe_lst (pa_cons (pe_op op_add_str pe_str (pe_ix ix_list (pv 0) pe_int (fun _ _ => rfl))) pa_nil)) (pa_cons pe_int (pa_cons pe_int (pa_cons pe_str pa_nil))))) (pa_cons (pe_tup (pa_cons (pe_lst (pa_cons (pe_op op_add_str (pe_op op_add_str pe_str (pe_ix ix_list (pv 1) pe_int (fun _ _ => rfl))) pe_str) pa_nil)) (pa_cons pe_int (pa_cons (pe_op op_add pe_int (pe_callB (call_len_str) (by rfl) B.len (by decide +kernel) (pa_cons (pe_ix ix_list (pv 1) pe_int (fun _ _ => rfl)) pa_nil))) (pa_cons pe_str pa_nil))))) pa_nil)))))))))))))))
    , ?_⟩
  have zz := sizeLine_eq
  have r0 := zr 0 (by decide)
  have p0 := zp 0 (by decide)
  have r1 := zr 1 (by decide)
  have p1 := zp 1 (by decide)
  have r2 := zr 2 (by decide)
  have p2 := zp 2 (by decide)
  have l0 : (Str.ofString "" : Str).length = 0 := by decide +kernel
  have l1 : (Str.ofString " at 3 with" : Str).length = 10 := by decide +kernel
  have l2 : (Str.ofString " at 3 with " : Str).length = 11 := by decide +kernel
  have l3 : (Str.ofString " at 91 with " : Str).length = 12 := by decide +kernel
  have l4 : (Str.ofString " on 0" : Str).length = 5 := by decide +kernel
  have l5 : (Str.ofString " on 0 " : Str).length = 6 := by decide +kernel
  have l6 : (Str.ofString " on 0 0" : Str).length = 7 := by decide +kernel
  have l7 : (Str.ofString " on 100" : Str).length = 7 := by decide +kernel
  have l8 : (Str.ofString "Q" : Str).length = 1 := by decide +kernel
  have l9 : (Str.ofString "Q at 3 with " : Str).length = 12 := by decide +kernel
  have l10 : (Str.ofString "hold " : Str).length = 5 := by decide +kernel
  have l11 : (Str.ofString "make " : Str).length = 5 := by decide +kernel
  have l12 : (Str.ofString "take " : Str).length = 5 := by decide +kernel
  have S0 : Same H H := Same.refl _
  refine ⟨_, rfl, lr, _, 1, _, rfl, rfl, (S0.seq hR), atI_nat (j := 1) rfl, _, _, rfl, rfl, (by simp only [len_app, l0, l1, l2, l3, l4, l5, l6, l7, l8, l9, l10, l11, l12]; omega), _, _, rfl, rfl, (by simp only [len_app, l0, l1, l2, l3, l4, l5, l6, l7, l8, l9, l10, l11, l12]; omega), _, rfl, lp, _, 0, _, rfl, rfl, (S0.seq hP), atI_nat (j := 0) rfl, _, _, rfl, rfl, (by simp only [len_app, l0, l1, l2, l3, l4, l5, l6, l7, l8, l9, l10, l11, l12]; omega), _, rfl, lr, _, 0, _, rfl, rfl, (S0.seq hR), atI_nat (j := 0) rfl, _, _, rfl, rfl, (by simp only [len_app, l0, l1, l2, l3, l4, l5, l6, l7, l8, l9, l10, l11, l12]; omega), _, _, rfl, rfl, (by simp only [len_app, l0, l1, l2, l3, l4, l5, l6, l7, l8, l9, l10, l11, l12]; omega), _, rfl, lp, _, 0, _, rfl, rfl, (S0.seq hP), atI_nat (j := 0) rfl, _, _, rfl, rfl, (by simp only [len_app, l0, l1, l2, l3, l4, l5, l6, l7, l8, l9, l10, l11, l12]; omega), (by show 2 ≤ sizeLine; decide), fun x hx => ?_⟩
  refine ⟨(by show 4 ≤ sizeLine; decide), fun t0 ht => ?_⟩
  obtain ⟨c0, y⟩ := caseJ_new (c := (casesJ r p)[0]'(by show 0 < 13; decide)) hx ht (lstJ2 rj0 rj1) rfl rfl rfl
  have S1 := S0.trans y
  clear hx y
  -- case 0
  refine ⟨_, rfl, lr, _, 1, _, rfl, rfl, (S1.seq hR), atI_nat (j := 1) rfl, _, _, rfl, rfl, (by simp only [len_app, l0, l1, l2, l3, l4, l5, l6, l7, l8, l9, l10, l11, l12]; omega), _, _, rfl, rfl, (by simp only [len_app, l0, l1, l2, l3, l4, l5, l6, l7, l8, l9, l10, l11, l12]; omega), _, rfl, lp, _, 0, _, rfl, rfl, (S1.seq hP), atI_nat (j := 0) rfl, _, _, rfl, rfl, (by simp only [len_app, l0, l1, l2, l3, l4, l5, l6, l7, l8, l9, l10, l11, l12]; omega), _, rfl, lr, _, 1, _, rfl, rfl, (S1.seq hR), atI_nat (j := 1) rfl, _, _, rfl, rfl, (by simp only [len_app, l0, l1, l2, l3, l4, l5, l6, l7, l8, l9, l10, l11, l12]; omega), _, _, rfl, rfl, (by simp only [len_app, l0, l1, l2, l3, l4, l5, l6, l7, l8, l9, l10, l11, l12]; omega), _, rfl, lp, _, 0, _, rfl, rfl, (S1.seq hP), atI_nat (j := 0) rfl, _, _, rfl, rfl, (by simp only [len_app, l0, l1, l2, l3, l4, l5, l6, l7, l8, l9, l10, l11, l12]; omega), (by show 2 ≤ sizeLine; decide), fun x hx => ?_⟩
  refine ⟨(by show 4 ≤ sizeLine; decide), fun t1 ht => ?_⟩
  obtain ⟨c1, y⟩ := caseJ_new (c := (casesJ r p)[1]'(by show 1 < 13; decide)) hx ht (lstJ2 rj0 rj0) rfl rfl rfl
  have S2 := S1.trans y
  replace c0 := c0.same y
  clear hx y
  -- case 1
  refine ⟨_, rfl, lp, _, 2, _, rfl, rfl, (S2.seq hP), atI_nat (j := 2) rfl, _, _, rfl, rfl, (by simp only [len_app, l0, l1, l2, l3, l4, l5, l6, l7, l8, l9, l10, l11, l12]; omega), _, _, rfl, rfl, (by simp only [len_app, l0, l1, l2, l3, l4, l5, l6, l7, l8, l9, l10, l11, l12]; omega), _, rfl, lp, _, 1, _, rfl, rfl, (S2.seq hP), atI_nat (j := 1) rfl, _, _, rfl, rfl, (by simp only [len_app, l0, l1, l2, l3, l4, l5, l6, l7, l8, l9, l10, l11, l12]; omega), _, _, rfl, rfl, (by simp only [len_app, l0, l1, l2, l3, l4, l5, l6, l7, l8, l9, l10, l11, l12]; omega), (by show 2 ≤ sizeLine; decide), fun x hx => ?_⟩
  refine ⟨(by show 4 ≤ sizeLine; decide), fun t2 ht => ?_⟩
  obtain ⟨c2, y⟩ := caseJ_new (c := (casesJ r p)[2]'(by show 2 < 13; decide)) hx ht (lstJ2 rj2 rj3) rfl rfl rfl
  have S3 := S2.trans y
  replace c0 := c0.same y
  replace c1 := c1.same y
  clear hx y
  -- case 2
  refine ⟨_, rfl, lp, _, 0, _, rfl, rfl, (S3.seq hP), atI_nat (j := 0) rfl, _, _, rfl, rfl, (by simp only [len_app, l0, l1, l2, l3, l4, l5, l6, l7, l8, l9, l10, l11, l12]; omega), _, _, rfl, rfl, (by simp only [len_app, l0, l1, l2, l3, l4, l5, l6, l7, l8, l9, l10, l11, l12]; omega), _, rfl, lr, _, 0, _, rfl, rfl, (S3.seq hR), atI_nat (j := 0) rfl, _, _, rfl, rfl, (by simp only [len_app, l0, l1, l2, l3, l4, l5, l6, l7, l8, l9, l10, l11, l12]; omega), _, _, rfl, rfl, (by simp only [len_app, l0, l1, l2, l3, l4, l5, l6, l7, l8, l9, l10, l11, l12]; omega), _, rfl, lp, _, 0, _, rfl, rfl, (S3.seq hP), atI_nat (j := 0) rfl, _, _, rfl, rfl, (by simp only [len_app, l0, l1, l2, l3, l4, l5, l6, l7, l8, l9, l10, l11, l12]; omega), (by show 2 ≤ sizeLine; decide), fun x hx => ?_⟩
  refine ⟨(by show 4 ≤ sizeLine; decide), fun t3 ht => ?_⟩
  obtain ⟨c3, y⟩ := caseJ_new (c := (casesJ r p)[3]'(by show 3 < 13; decide)) hx ht (lstJ2 rj4 rj1) rfl rfl rfl
  have S4 := S3.trans y
  replace c0 := c0.same y
  replace c1 := c1.same y
  replace c2 := c2.same y
  clear hx y
  -- case 3
  refine ⟨_, rfl, lr, _, 0, _, rfl, rfl, (S4.seq hR), atI_nat (j := 0) rfl, _, _, rfl, rfl, (by simp only [len_app, l0, l1, l2, l3, l4, l5, l6, l7, l8, l9, l10, l11, l12]; omega), _, _, rfl, rfl, (by simp only [len_app, l0, l1, l2, l3, l4, l5, l6, l7, l8, l9, l10, l11, l12]; omega), _, rfl, lp, _, 0, _, rfl, rfl, (S4.seq hP), atI_nat (j := 0) rfl, _, _, rfl, rfl, (by simp only [len_app, l0, l1, l2, l3, l4, l5, l6, l7, l8, l9, l10, l11, l12]; omega), (by show 1 ≤ sizeLine; decide), fun x hx => ?_⟩
  refine ⟨_, rfl, lr, _, 0, _, rfl, rfl, ((S4.trans (same_new hx _)).seq hR), atI_nat (j := 0) rfl, _, rfl, (by omega), _, _, rfl, rfl, (by show 4 ≤ sizeLine; decide), fun t4 ht => ?_⟩
  obtain ⟨c4, y⟩ := caseJ_new (c := (casesJ r p)[4]'(by show 4 < 13; decide)) hx ht (lstJ1 rj5) rfl rfl rfl
  have S5 := S4.trans y
  replace c0 := c0.same y
  replace c1 := c1.same y
  replace c2 := c2.same y
  replace c3 := c3.same y
  clear hx y
  -- case 4
  refine ⟨_, rfl, lp, _, 0, _, rfl, rfl, (S5.seq hP), atI_nat (j := 0) rfl, _, _, rfl, rfl, (by simp only [len_app, l0, l1, l2, l3, l4, l5, l6, l7, l8, l9, l10, l11, l12]; omega), _, _, rfl, rfl, (by simp only [len_app, l0, l1, l2, l3, l4, l5, l6, l7, l8, l9, l10, l11, l12]; omega), (by show 1 ≤ sizeLine; decide), fun x hx => ?_⟩
  refine ⟨_, rfl, lp, _, 0, _, rfl, rfl, ((S5.trans (same_new hx _)).seq hP), atI_nat (j := 0) rfl, _, rfl, (by omega), _, _, rfl, rfl, (by show 4 ≤ sizeLine; decide), fun t5 ht => ?_⟩
  obtain ⟨c5, y⟩ := caseJ_new (c := (casesJ r p)[5]'(by show 5 < 13; decide)) hx ht (lstJ1 rj6) rfl rfl rfl
  have S6 := S5.trans y
  replace c0 := c0.same y
  replace c1 := c1.same y
  replace c2 := c2.same y
  replace c3 := c3.same y
  replace c4 := c4.same y
  clear hx y
  -- case 5
  refine ⟨_, rfl, lr, _, 0, _, rfl, rfl, (S6.seq hR), atI_nat (j := 0) rfl, _, _, rfl, rfl, (by simp only [len_app, l0, l1, l2, l3, l4, l5, l6, l7, l8, l9, l10, l11, l12]; omega), _, _, rfl, rfl, (by simp only [len_app, l0, l1, l2, l3, l4, l5, l6, l7, l8, l9, l10, l11, l12]; omega), _, rfl, lp, _, 0, _, rfl, rfl, (S6.seq hP), atI_nat (j := 0) rfl, _, _, rfl, rfl, (by simp only [len_app, l0, l1, l2, l3, l4, l5, l6, l7, l8, l9, l10, l11, l12]; omega), (by show 1 ≤ sizeLine; decide), fun x hx => ?_⟩
  refine ⟨(by show 4 ≤ sizeLine; decide), fun t6 ht => ?_⟩
  obtain ⟨c6, y⟩ := caseJ_new (c := (casesJ r p)[6]'(by show 6 < 13; decide)) hx ht (lstJ1 rj7) rfl rfl rfl
  have S7 := S6.trans y
  replace c0 := c0.same y
  replace c1 := c1.same y
  replace c2 := c2.same y
  replace c3 := c3.same y
  replace c4 := c4.same y
  replace c5 := c5.same y
  clear hx y
  -- case 6
  refine ⟨_, rfl, lr, _, 0, _, rfl, rfl, (S7.seq hR), atI_nat (j := 0) rfl, _, _, rfl, rfl, (by simp only [len_app, l0, l1, l2, l3, l4, l5, l6, l7, l8, l9, l10, l11, l12]; omega), _, _, rfl, rfl, (by simp only [len_app, l0, l1, l2, l3, l4, l5, l6, l7, l8, l9, l10, l11, l12]; omega), _, rfl, lp, _, 0, _, rfl, rfl, (S7.seq hP), atI_nat (j := 0) rfl, _, _, rfl, rfl, (by simp only [len_app, l0, l1, l2, l3, l4, l5, l6, l7, l8, l9, l10, l11, l12]; omega), _, _, rfl, rfl, (by simp only [len_app, l0, l1, l2, l3, l4, l5, l6, l7, l8, l9, l10, l11, l12]; omega), (by show 1 ≤ sizeLine; decide), fun x hx => ?_⟩
  refine ⟨_, rfl, lr, _, 0, _, rfl, rfl, ((S7.trans (same_new hx _)).seq hR), atI_nat (j := 0) rfl, _, rfl, (by omega), _, _, rfl, rfl, (by show 4 ≤ sizeLine; decide), fun t7 ht => ?_⟩
  obtain ⟨c7, y⟩ := caseJ_new (c := (casesJ r p)[7]'(by show 7 < 13; decide)) hx ht (lstJ1 rj8) rfl rfl rfl
  have S8 := S7.trans y
  replace c0 := c0.same y
  replace c1 := c1.same y
  replace c2 := c2.same y
  replace c3 := c3.same y
  replace c4 := c4.same y
  replace c5 := c5.same y
  replace c6 := c6.same y
  clear hx y
  -- case 7
  refine ⟨_, rfl, lr, _, 0, _, rfl, rfl, (S8.seq hR), atI_nat (j := 0) rfl, _, _, rfl, rfl, (by simp only [len_app, l0, l1, l2, l3, l4, l5, l6, l7, l8, l9, l10, l11, l12]; omega), _, _, rfl, rfl, (by simp only [len_app, l0, l1, l2, l3, l4, l5, l6, l7, l8, l9, l10, l11, l12]; omega), (by show 1 ≤ sizeLine; decide), fun x hx => ?_⟩
  refine ⟨_, rfl, lr, _, 0, _, rfl, rfl, ((S8.trans (same_new hx _)).seq hR), atI_nat (j := 0) rfl, _, rfl, (by omega), _, _, rfl, rfl, (by show 4 ≤ sizeLine; decide), fun t8 ht => ?_⟩
  obtain ⟨c8, y⟩ := caseJ_new (c := (casesJ r p)[8]'(by show 8 < 13; decide)) hx ht (lstJ1 rj9) rfl rfl rfl
  have S9 := S8.trans y
  replace c0 := c0.same y
  replace c1 := c1.same y
  replace c2 := c2.same y
  replace c3 := c3.same y
  replace c4 := c4.same y
  replace c5 := c5.same y
  replace c6 := c6.same y
  replace c7 := c7.same y
  clear hx y
  -- case 8
  refine ⟨_, rfl, lp, _, 0, _, rfl, rfl, (S9.seq hP), atI_nat (j := 0) rfl, _, _, rfl, rfl, (by simp only [len_app, l0, l1, l2, l3, l4, l5, l6, l7, l8, l9, l10, l11, l12]; omega), _, _, rfl, rfl, (by simp only [len_app, l0, l1, l2, l3, l4, l5, l6, l7, l8, l9, l10, l11, l12]; omega), (by show 1 ≤ sizeLine; decide), fun x hx => ?_⟩
  refine ⟨_, rfl, lp, _, 0, _, rfl, rfl, ((S9.trans (same_new hx _)).seq hP), atI_nat (j := 0) rfl, _, rfl, (by omega), _, _, rfl, rfl, (by show 4 ≤ sizeLine; decide), fun t9 ht => ?_⟩
  obtain ⟨c9, y⟩ := caseJ_new (c := (casesJ r p)[9]'(by show 9 < 13; decide)) hx ht (lstJ1 rj10) rfl rfl rfl
  have S10 := S9.trans y
  replace c0 := c0.same y
  replace c1 := c1.same y
  replace c2 := c2.same y
  replace c3 := c3.same y
  replace c4 := c4.same y
  replace c5 := c5.same y
  replace c6 := c6.same y
  replace c7 := c7.same y
  replace c8 := c8.same y
  clear hx y
  -- case 9
  refine ⟨_, rfl, lp, _, 0, _, rfl, rfl, (S10.seq hP), atI_nat (j := 0) rfl, _, _, rfl, rfl, (by simp only [len_app, l0, l1, l2, l3, l4, l5, l6, l7, l8, l9, l10, l11, l12]; omega), _, _, rfl, rfl, (by simp only [len_app, l0, l1, l2, l3, l4, l5, l6, l7, l8, l9, l10, l11, l12]; omega), (by show 2 ≤ sizeLine; decide), fun x hx => ?_⟩
  refine ⟨(by show 4 ≤ sizeLine; decide), fun t10 ht => ?_⟩
  obtain ⟨c10, y⟩ := caseJ_new (c := (casesJ r p)[10]'(by show 10 < 13; decide)) hx ht (lstJ2 rj11 rj4) rfl rfl rfl
  have S11 := S10.trans y
  replace c0 := c0.same y
  replace c1 := c1.same y
  replace c2 := c2.same y
  replace c3 := c3.same y
  replace c4 := c4.same y
  replace c5 := c5.same y
  replace c6 := c6.same y
  replace c7 := c7.same y
  replace c8 := c8.same y
  replace c9 := c9.same y
  clear hx y
  -- case 10
  refine ⟨_, rfl, lr, _, 0, _, rfl, rfl, (S11.seq hR), atI_nat (j := 0) rfl, _, _, rfl, rfl, (by simp only [len_app, l0, l1, l2, l3, l4, l5, l6, l7, l8, l9, l10, l11, l12]; omega), (by show 1 ≤ sizeLine; decide), fun x hx => ?_⟩
  refine ⟨(by show 4 ≤ sizeLine; decide), fun t11 ht => ?_⟩
  obtain ⟨c11, y⟩ := caseJ_new (c := (casesJ r p)[11]'(by show 11 < 13; decide)) hx ht (lstJ1 rj12) rfl rfl rfl
  have S12 := S11.trans y
  replace c0 := c0.same y
  replace c1 := c1.same y
  replace c2 := c2.same y
  replace c3 := c3.same y
  replace c4 := c4.same y
  replace c5 := c5.same y
  replace c6 := c6.same y
  replace c7 := c7.same y
  replace c8 := c8.same y
  replace c9 := c9.same y
  replace c10 := c10.same y
  clear hx y
  -- case 11
  refine ⟨_, rfl, lp, _, 0, _, rfl, rfl, (S12.seq hP), atI_nat (j := 0) rfl, _, _, rfl, rfl, (by simp only [len_app, l0, l1, l2, l3, l4, l5, l6, l7, l8, l9, l10, l11, l12]; omega), _, _, rfl, rfl, (by simp only [len_app, l0, l1, l2, l3, l4, l5, l6, l7, l8, l9, l10, l11, l12]; omega), (by show 1 ≤ sizeLine; decide), fun x hx => ?_⟩
  refine ⟨_, rfl, lp, _, 0, _, rfl, rfl, ((S12.trans (same_new hx _)).seq hP), atI_nat (j := 0) rfl, _, rfl, (by omega), _, _, rfl, rfl, (by show 4 ≤ sizeLine; decide), fun t12 ht => ?_⟩
  obtain ⟨c12, y⟩ := caseJ_new (c := (casesJ r p)[12]'(by show 12 < 13; decide)) hx ht (lstJ1 rj13) rfl rfl rfl
  have S13 := S12.trans y
  replace c0 := c0.same y
  replace c1 := c1.same y
  replace c2 := c2.same y
  replace c3 := c3.same y
  replace c4 := c4.same y
  replace c5 := c5.same y
  replace c6 := c6.same y
  replace c7 := c7.same y
  replace c8 := c8.same y
  replace c9 := c9.same y
  replace c10 := c10.same y
  replace c11 := c11.same y
  clear hx y
  -- case 12
  refine ⟨(by show 13 ≤ sizeLine; decide), fun a ha => ?_⟩
  have y := same_new ha (.lst [V.ref t0, V.ref t1, V.ref t2, V.ref t3, V.ref t4, V.ref t5, V.ref t6, V.ref t7, V.ref t8, V.ref t9, V.ref t10, V.ref t11, V.ref t12])
  refine q a _ _ (S13.trans y) upd_same rfl (fun i c hc => ?_)
  match i, hc with
  | 0, hc => exact ⟨_, rfl, by rw [← Option.some.inj hc]; exact c0.same y⟩
  | 1, hc => exact ⟨_, rfl, by rw [← Option.some.inj hc]; exact c1.same y⟩
  | 2, hc => exact ⟨_, rfl, by rw [← Option.some.inj hc]; exact c2.same y⟩
  | 3, hc => exact ⟨_, rfl, by rw [← Option.some.inj hc]; exact c3.same y⟩
  | 4, hc => exact ⟨_, rfl, by rw [← Option.some.inj hc]; exact c4.same y⟩
  | 5, hc => exact ⟨_, rfl, by rw [← Option.some.inj hc]; exact c5.same y⟩
  | 6, hc => exact ⟨_, rfl, by rw [← Option.some.inj hc]; exact c6.same y⟩
  | 7, hc => exact ⟨_, rfl, by rw [← Option.some.inj hc]; exact c7.same y⟩
  | 8, hc => exact ⟨_, rfl, by rw [← Option.some.inj hc]; exact c8.same y⟩
  | 9, hc => exact ⟨_, rfl, by rw [← Option.some.inj hc]; exact c9.same y⟩
  | 10, hc => exact ⟨_, rfl, by rw [← Option.some.inj hc]; exact c10.same y⟩
  | 11, hc => exact ⟨_, rfl, by rw [← Option.some.inj hc]; exact c11.same y⟩
  | 12, hc => exact ⟨_, rfl, by rw [← Option.some.inj hc]; exact c12.same y⟩
  | i + 13, hc => exact absurd hc (by show (([] : List CaseJ)[i]? = some c) → False; simp)
end
end DP
namespace DP
open PySem PySem.Spec PyProof.Rows L2
abbrev s_law : Stmt := topS 56
theorem sc_law : FnScope ["_law_script", "_law_stream_here", "_law_r", "_law_p", "_law_lines", "_law_name", "_law_line", "_law_world", "_law_cases_here", "_law_rows", "_law_column", "_law_reason", "e", "_law_k", "_law_row"] ["_law_script"] (defScope s_law) := ⟨rfl, rfl, rfl, by decide +kernel, rfl, by decide +kernel, by decide +kernel⟩
theorem takesN0 {X : Cx} : L2N.Takes X fun _ _ _ _ => False := fun _ _ x => by
  obtain ⟨_, _, _, _, _, _, _, _, _, _, _, _, _, _, _, _, h⟩ := x
  exact h.elim
theorem hotN {X : Cx} {a : Addr} {oe : Obj} {cls : Value} {d : Option Addr} {pn : List (Addr × Obj)} (hz : L2N.Zn cls d oe) (hf : ∃ vs, oe.data = .fields vs) : L2H.HotC (X.suite a ((a, oe) :: pn)) := by
  obtain ⟨vs, e⟩ := hf
  exact ⟨(a, oe), ⟨rfl, vs, e, hz.2.2 vs e⟩, List.mem_cons_self⟩
theorem roomN {X : Cx} {k : Nat} {a : Addr} {pn : List (Addr × Obj)} (r : Room k X.A) : L2H.RoomH k (X.suite a pn).A := ⟨r.dp, r.un⟩
def nm3 (a b c : Str) : Nat → Str := fun i => if i = 0 then a else if i = 1 then b else c
theorem horJ : (Str.ofString "horizon 90" : Str) = row (wHor 90) := by decide +kernel
theorem satJ : (Str.ofString "satellite S store 5 battery 60 level 50 reserve 20 charge 1 settle 2 light" : Str) = row (wSat ⟨Str.ofString "S", 5, 60, 50, 20, 1, 2, []⟩) := by decide +kernel
theorem staJ : (Str.ofString "station T antennas 2 turn 4" : Str) = row (wSta ⟨Str.ofString "T", 2, 4⟩) := by decide +kernel
section
variable {r p : Nat → Str}
theorem recRow {n : Str} : (Str.ofString "recording " : Str) ++ n ++ Str.ofString " by S from 5 to 9 length 2 size 3 energy 4 worth 5 rank 2 until 60" = row (wRec (WJ r p) (recJ n)) := by
  refine TL.ext_tl ?_
  show tl _ = tl (row [Str.ofString "recording", n, Str.ofString "by", Str.ofString "S", Str.ofString "from", num 5, Str.ofString "to", num 9, Str.ofString "length", num 2, Str.ofString "size", num 3, Str.ofString "energy", num 4, Str.ofString "worth", num 5, Str.ofString "rank", num 2, Str.ofString "until", num 60])
  unfold row
  rw [show ∀ ws, tl (Str.join sp ws) = TL.joinL (tl sp) (ws.map tl) from fun ws => TL.tl_join _ _]
  simp only [tl_app, List.append_assoc, List.map_cons, List.map_nil]
  generalize tl n = x
  kernel_rfl
theorem pasRow {n : Str} : (Str.ofString "pass " : Str) ++ n ++ Str.ofString " by S over T from 12 to 20 room 3 energy 4 fee 5" = row (wPas (WJ r p) (pasJ n)) := by
  refine TL.ext_tl ?_
  show tl _ = tl (row [Str.ofString "pass", n, Str.ofString "by", Str.ofString "S", Str.ofString "over", Str.ofString "T", Str.ofString "from", num 12, Str.ofString "to", num 20, Str.ofString "room", num 3, Str.ofString "energy", num 4, Str.ofString "fee", num 5])
  unfold row
  rw [show ∀ ws, tl (Str.join sp ws) = TL.joinL (tl sp) (ws.map tl) from fun ws => TL.tl_join _ _]
  simp only [tl_app, List.append_assoc, List.map_cons, List.map_nil]
  generalize tl n = x
  kernel_rfl
theorem nameS : NameOk (Str.ofString "S") := ⟨83, [], by decide +kernel, by decide, fun _ z => absurd z List.not_mem_nil, by decide⟩
theorem nameT : NameOk (Str.ofString "T") := ⟨84, [], by decide +kernel, by decide, fun _ z => absurd z List.not_mem_nil, by decide⟩
theorem recJ_ok {n : Str} (h : NameOk n) : RecOk (WJ r p) (recJ n) := ⟨h, by show 0 < 1; decide, by show (0 : Int) ≤ 5 ∧ (5 : Int) ≤ 90 - 1; decide, by show (5 : Int) ≤ 9 ∧ (9 : Int) ≤ 5 + 20 ∧ (9 : Int) ≤ 90 - 1; decide, by show (1 : Int) ≤ 2 ∧ (2 : Int) ≤ 90 - 9; decide,
  by show (0 : Int) ≤ 3 ∧ (3 : Int) ≤ 1000000; decide, by show (0 : Int) ≤ 4 ∧ (4 : Int) ≤ 1000000; decide, by show (1 : Int) ≤ 5 ∧ (5 : Int) ≤ 1000; decide, by show (1 : Int) ≤ 2 ∧ (2 : Int) ≤ 3; decide, by show (0 : Int) ≤ 60 ∧ (60 : Int) ≤ 90; decide⟩
theorem pasJ_ok {n : Str} (h : NameOk n) : PasOk (WJ r p) (pasJ n) := ⟨h, by show 0 < 1; decide, by show 0 < 1; decide, by show (0 : Int) ≤ 12 ∧ (12 : Int) ≤ 90 - 1; decide, by show (12 : Int) + 1 ≤ 20 ∧ (20 : Int) ≤ 90; decide,
  by show (0 : Int) ≤ 3 ∧ (3 : Int) ≤ 1000000; decide, by show (0 : Int) ≤ 4 ∧ (4 : Int) ≤ 1000000; decide, by show (0 : Int) ≤ 5 ∧ (5 : Int) ≤ 1000; decide⟩
theorem nodup3 {a b c : Str} (h : a ≠ b) (k : a ≠ c) (l : b ≠ c) : [a, b, c].Nodup := by
  simp only [List.nodup_cons, List.mem_cons, List.not_mem_nil, or_false, not_or, not_false_iff, List.nodup_nil, and_true]
  exact ⟨⟨h, k⟩, l⟩
theorem WJ_ok (N : Nm r p) : WorldOk (WJ r p) where
  horizon := by show (1 : Int) ≤ 90 ∧ (90 : Int) ≤ 500; decide
  nSats := by show 1 ≤ 3; decide
  nStas := by show 1 ≤ 3; decide
  nRecs := by show 3 ≤ 10; decide
  nPass := by show 3 ≤ 10; decide
  dSats := List.pairwise_singleton _ _
  dStas := List.pairwise_singleton _ _
  dRecs := nodup3 ((N.r 0 (by decide)).1.ne (N.r 1 (by decide)).1 (by decide)) ((N.r 0 (by decide)).1.ne (N.r 2 (by decide)).1 (by decide)) ((N.r 1 (by decide)).1.ne (N.r 2 (by decide)).1 (by decide))
  dPass := nodup3 ((N.p 0 (by decide)).1.ne (N.p 1 (by decide)).1 (by decide)) ((N.p 0 (by decide)).1.ne (N.p 2 (by decide)).1 (by decide)) ((N.p 1 (by decide)).1.ne (N.p 2 (by decide)).1 (by decide))
  sats := mem1 ⟨nameS, by decide, by decide, by decide, by decide, by decide, by decide, True.intro⟩
  stas := mem1 ⟨nameT, by decide, by decide⟩
  recs := List.forall_mem_cons.mpr ⟨recJ_ok (N.r 0 (by decide)).1.ok, mem2 (recJ_ok (N.r 1 (by decide)).1.ok) (recJ_ok (N.r 2 (by decide)).1.ok)⟩
  pass := List.forall_mem_cons.mpr ⟨pasJ_ok (N.p 0 (by decide)).1.ok, mem2 (pasJ_ok (N.p 1 (by decide)).1.ok) (pasJ_ok (N.p 2 (by decide)).1.ok)⟩
end
theorem sum_nl {m : Nat} : ∀ l : List Str, (∀ r ∈ l, r.length ≤ m) → ((l.map fun r => r ++ nl).map fun x => x.length).sum ≤ (m + 1) * l.length := fun l => by
  induction l with
  | nil => exact fun _ => Nat.zero_le _
  | cons x r ih =>
    intro hl
    have h1 := ih fun z hz => hl z (List.mem_cons_of_mem _ hz)
    have h2 := len_addX (hl x List.mem_cons_self) (show nl.length ≤ 1 by decide +kernel)
    simp only [List.map_cons, List.sum_cons, List.length_cons]
    rw [Nat.mul_add]
    omega
theorem app1 {A : List Str} {s : Str} : A.map V.str ++ [V.str s] = (A ++ [s]).map V.str := by rw [List.map_append]; rfl
theorem lin_take {r p : Nat → Str} : (linesW (WJ r p)).map row = [row (wHor 90), row (wSat ⟨Str.ofString "S", 5, 60, 50, 20, 1, 2, []⟩), row (wSta ⟨Str.ofString "T", 2, 4⟩)] ++ ([r 0, r 1, r 2].map fun n => row (wRec (WJ r p) (recJ n))) ++ ([p 0, p 1, p 2].map fun n => row (wPas (WJ r p) (pasJ n))) := rfl
theorem take_snocX {α β : Type} {l : List α} {f : α → β} {i : Nat} {x : α} (h : l[i]? = some x) : (l.take (i + 1)).map f = (l.take i).map f ++ [f x] := by
  rw [List.take_add_one, h, List.map_append]
  rfl
section
variable {P : Program} {w : World} {K : PySem.W.Frag} {mg : Str → Option Value} {base : Heap} {CL CS CT CR CP CW aS aR fS fT fR fP CF : Addr}
def spLaw (K : PySem.W.Frag) : Sp := fun vs H Q _ => ∃ (a : Addr) (ns : List Int), vs = [.ref a] ∧ SqL K H a (ns.map V.int) ∧ ∀ H', Q (.bl true) H'
set_option maxHeartbeats 16000000 in
theorem d_law (T : TxtW K mg CL CS CT CR CP CW aS aR fS fT fR fP) (TF : TfAt K mg CF) (D_law_cell : DefOk P w K mg base CX0 1 "_law_cell" ["_law_script", "_law_k"] (DP.spCell K)) (D_law_stream : DefOk P w K mg base CX0 2 "_law_stream" ["_law_script", "_law_first", "_law_count"] (spStream K))
    (D_law_word : DefOk P w K mg base CX0 2 "_law_word" ["_law_stream_here", "_law_index"] spWordL) (D_law_cases : DefOk P w K mg base CX0 1 "_law_cases" ["_law_r", "_law_p"] (spCasesJ K)) (D_sameH : DefH P w K mg base CX0 3 "_law_same" ["_law_actual", "_law_expected"] (spSame K 2))
    (D_World_parse : SDef P w K mg base CX0 7 CW "parse" ["text"] (spParse K CS CT CR CP CW)) (D_parse_plan : DefOk P w K mg base (L2N.CX P w) 8 "parse_plan" ["text", "world"] (spParsePlanX K CS CT CR CP CW CF)) (A : At K mg "law" s_law ["_law_script"]) : DefOk P w K mg base CX0 9 "law" ["_law_script"] (spLaw K) := by
  have B := T.L.B
  refine A.ok sc_law (fun vs H Q E h => ?_) (fun f cdv A outer s H vs Q E hr h => ?_)
  · obtain ⟨a, ns, rfl, _⟩ := h
    rfl
  obtain ⟨a, ns, rfl, hS, q⟩ := h
  have hr1 : Room 8 _ := hr
  have hr3 : Room 3 _ := hr.mono (by omega)
  refine ⟨_, pss_cons (ps_set (i := 1) sc_law.nd rfl (Or.inr rfl) (pe_f D_law_stream (hr.mono (by omega)) pass0 (pa_cons (pv 0) (pa_cons pe_int (pa_cons pe_int pa_nil)))))
  (pss_cons (ps_setLc (own := [("_law_k", 13)]) (i := 2) rfl sc_law.nd rfl rfl (sw_true rfl rfl rfl (by decide +kernel)) (pi_range1 (by rfl) B.range (pa_cons pe_int pa_nil)) (blkOk_by (own := [("_law_k", 13)]) (N := ["_law_script", "_law_stream_here", "_law_r", "_law_p", "_law_lines", "_law_name", "_law_line", "_law_world", "_law_cases_here", "_law_rows", "_law_column", "_law_reason", "e", "_law_k", "_law_row"]) (sc := defScope s_law) (by decide +kernel)) (fun _ _ _ _ _ => pg_name (i := 13) sc_law.nd rfl (Or.inl rfl)) (fun _ _ _ _ _ => pts_nil) (fun _ _ _ _ _ => (pe_f D_law_word (hr.mono (by omega)) pass0 (pa_cons (pv 1) (pa_cons (pv 13) pa_nil)))))
  (pss_cons (ps_setLc (own := [("_law_k", 13)]) (i := 3) rfl sc_law.nd rfl rfl (sw_true rfl rfl rfl (by decide +kernel)) (pi_range1 (by rfl) B.range (pa_cons pe_int pa_nil)) (blkOk_by (own := [("_law_k", 13)]) (N := ["_law_script", "_law_stream_here", "_law_r", "_law_p", "_law_lines", "_law_name", "_law_line", "_law_world", "_law_cases_here", "_law_rows", "_law_column", "_law_reason", "e", "_law_k", "_law_row"]) (sc := defScope s_law) (by decide +kernel)) (fun _ _ _ _ _ => pg_name (i := 13) sc_law.nd rfl (Or.inl rfl)) (fun _ _ _ _ _ => pts_nil) (fun _ _ _ _ _ => (pe_f D_law_word (hr.mono (by omega)) pass0 (pa_cons (pv 1) (pa_cons (pe_op op_add pe_int (pv 13)) pa_nil)))))
  (pss_cons (ps_set (i := 4) sc_law.nd rfl (Or.inl rfl) (pe_lst (pa_cons pe_str (pa_cons pe_str pa_nil))))
  (pss_cons (ps_expr (pe_bm PySem.F.plainAttrs_list PySem.F.slot_list_append PySem.F.type_list_append mt_append (pv 4) (pa_cons pe_str pa_nil)))
  (pss_cons (ps_for PassesOwn.never rfl (pi_list (pv 2)) (pg_name (i := 5) sc_law.nd rfl (Or.inl rfl))
      (pss_one (ps_expr (pe_bm PySem.F.plainAttrs_list PySem.F.slot_list_append PySem.F.type_list_append mt_append (pv 4) (pa_cons (pe_op op_add_str (pe_op op_add_str pe_str (pv 5)) pe_str) pa_nil)))))
  (pss_cons (ps_for PassesOwn.never rfl (pi_list (pv 3)) (pg_name (i := 5) sc_law.nd rfl (Or.inl rfl))
      (pss_one (ps_expr (pe_bm PySem.F.plainAttrs_list PySem.F.slot_list_append PySem.F.type_list_append mt_append (pv 4) (pa_cons (pe_op op_add_str (pe_op op_add_str pe_str (pv 5)) pe_str) pa_nil)))))
  (pss_cons (ps_set (i := 7) sc_law.nd rfl (Or.inl rfl) (pe_smeth D_World_parse T.rdW (hr.mono (by omega)) pass0 (pe_ga T.c_World.gC) (pa_cons (pe_join pe_str (pe_lc (own := [("_law_line", 6)])  rfl sc_law.nd (pi_list (pv 4)) (blkOk_by (own := [("_law_line", 6)]) (N := ["_law_script", "_law_stream_here", "_law_r", "_law_p", "_law_lines", "_law_name", "_law_line", "_law_world", "_law_cases_here", "_law_rows", "_law_column", "_law_reason", "e", "_law_k", "_law_row"]) (sc := defScope s_law) (by decide +kernel)) (fun _ _ _ _ _ => pg_name (i := 6) sc_law.nd rfl (Or.inl rfl)) (fun _ _ _ _ _ => pts_nil) (fun _ _ _ _ _ => (pe_op op_add_str (pv 6) pe_str)))) pa_nil)))
  (pss_cons (ps_set (i := 8) sc_law.nd rfl (Or.inl rfl) (pe_f D_law_cases (hr.mono (by omega)) pass0 (pa_cons (pv 2) (pa_cons (pv 3) pa_nil))))
  (pss_cons (ps_asg (pe_ix ix_list (pv 8) (pe_op op_mod (pe_f D_law_cell (hr.mono (by omega)) pass0 (pa_cons (pv 0) (pa_cons pe_int pa_nil))) (pe_callB (call_len_seq) (by rfl) B.len (by decide +kernel) (pa_cons (pv 8) pa_nil))) (fun _ _ => rfl)) (pg_tup (by rfl) (pgs_cons (pg_name (i := 9) sc_law.nd rfl (Or.inl rfl)) (pgs_cons (pg_name (i := 6) sc_law.nd rfl (Or.inl rfl)) (pgs_cons (pg_name (i := 10) sc_law.nd rfl (Or.inl rfl)) (pgs_cons (pg_name (i := 11) sc_law.nd rfl (Or.inl rfl)) (pgs_nil)))))))
  (pss_cons (L2N.ps_try_as (i := 12) (Wout := fun _ _ _ _ => False) rfl rfl sc_law.nd rfl rfl ⟨rfl, by decide, Or.inl TF.g⟩ takesN0 (fun W pn xe tk _ => by { refine' pss_one (ps_expr (pe_fSN D_parse_plan hr1 tk (pa_cons ?jn (pa_cons (pv 7) pa_nil)))); case jn => (refine' pe_joinK (K := K) rfl pe_str ?jm; case jm => exact (pe_lc (own := [("_law_row", 14)]) rfl sc_law.nd (pi_listK (K := K) rfl (pv 9)) (blkOk_by (own := [("_law_row", 14)]) (N := ["_law_script", "_law_stream_here", "_law_r", "_law_p", "_law_lines", "_law_name", "_law_line", "_law_world", "_law_cases_here", "_law_rows", "_law_column", "_law_reason", "e", "_law_k", "_law_row"]) (sc := defScope s_law) (by decide +kernel)) (fun _ _ _ _ _ => pg_name (i := 14) sc_law.nd rfl (Or.inl rfl)) (fun _ _ _ _ _ => pts_nil) (fun _ _ _ _ _ => (pe_op op_add_str (pv 14) pe_str)))) }) (fun a oe cls d pn hz hf => pss_one (ps_ret (pe_fH D_sameH (roomN hr3) (hotN hz hf) (pa_cons (pe_tup (pa_cons (pe_xf TF.xf TF.nl hz.zc hf (pv 12)) (pa_cons (pe_xf TF.xf TF.nc hz.zc hf (pv 12)) (pa_cons (pe_xf TF.xf TF.nr hz.zc hf (pv 12)) pa_nil)))) (pa_cons (pe_tup (pa_cons (pv 6) (pa_cons (pv 10) (pa_cons (pv 11) pa_nil)))) pa_nil))))))
  (pss_one (ps_ret pe_bl))))))))))))
    , ?_⟩
  refine ⟨_, rfl, a, ns, 0, 8, rfl, hS, by decide, by decide, by decide, fun st H1 s1 n1 st1 => ?_⟩
  have hS1 := s1.seq hS
  refine ⟨3, rfl, by decide, by decide, fun D hD => ?_⟩
  refine lc_range (lo := 0) (n := 3) (fun i H' => ∃ us : List Str, us.length = i ∧ (∀ (j : Nat) u, us[j]? = some u → WordAt j u ∧ u.length ≤ 10) ∧ H' D = some (.lst (us.map V.str)) ∧ Same H1 H') ⟨[], rfl, fun j u z => by simp at z, upd_same, same_new hD _⟩ (fun i H2 hi hI => ?_) (fun H2 hI => ?_)
  · obtain ⟨us, hl, hu, hDD, hs⟩ := hI
    rw [Int.zero_add]
    refine ⟨rfl, _, rfl, _, rfl, st, i, rfl, by omega, st1.same hs, fun u H3 s3 wu lu => ?_⟩
    refine ⟨_, s3 _ _ hDD, by rw [List.length_map, hl]; exact small1000 (by omega), us ++ [u], by rw [List.length_append, hl, List.length_singleton], fun j v hj => ?_, by rw [upd_same, app1], same_at hD (hs.trans s3) _⟩
    by_cases c : j < us.length
    · rw [List.getElem?_append_left c] at hj
      exact hu j v hj
    · have e : j = i := by
        have := (List.getElem?_eq_some_iff.mp hj).1
        rw [List.length_append, List.length_singleton] at this
        omega
      subst e
      rw [List.getElem?_append_right (by omega), hl, Nat.sub_self] at hj
      rw [← Option.some.inj hj]
      exact ⟨wu, lu⟩
  obtain ⟨us, hl, hu, hDD, hs⟩ := hI
  obtain ⟨r0, r1, r2, rfl⟩ : ∃ r0 r1 r2, us = [r0, r1, r2] := by
    match us, hl with
    | [x, y, z], _ => exact ⟨x, y, z, rfl⟩
  have u0 := hu 0 r0 rfl
  have u1 := hu 1 r1 rfl
  have u2 := hu 2 r2 rfl
  have hS2 := hs.seq hS1
  have st2 := st1.same hs
  clear hu hl hs
  refine ⟨3, rfl, by decide, by decide, fun D2 hD2 => ?_⟩
  refine lc_range (lo := 0) (n := 3) (fun i H' => ∃ us : List Str, us.length = i ∧ (∀ (j : Nat) u, us[j]? = some u → WordAt (3 + j) u ∧ u.length ≤ 10) ∧ H' D2 = some (.lst (us.map V.str)) ∧ Same H2 H') ⟨[], rfl, fun j u z => by simp at z, upd_same, same_new hD2 _⟩ (fun i H3 hi hI => ?_) (fun H3 hI => ?_)
  · obtain ⟨us, hl, hu, hDD2, hs⟩ := hI
    rw [Int.zero_add]
    refine ⟨rfl, _, rfl, _, rfl, _, _, rfl, rfl, st, 3 + i, by rw [show ((3 + i : Nat) : Int) = 3 + (i : Int) by omega]; rfl, by omega, st2.same hs, fun u H4 s3 wu lu => ?_⟩
    refine ⟨_, s3 _ _ hDD2, by rw [List.length_map, hl]; exact small1000 (by omega), us ++ [u], by rw [List.length_append, hl, List.length_singleton], fun j v hj => ?_, by rw [upd_same, app1], same_at hD2 (hs.trans s3) _⟩
    by_cases c : j < us.length
    · rw [List.getElem?_append_left c] at hj
      exact hu j v hj
    · have e : j = i := by
        have := (List.getElem?_eq_some_iff.mp hj).1
        rw [List.length_append, List.length_singleton] at this
        omega
      subst e
      rw [List.getElem?_append_right (by omega), hl, Nat.sub_self] at hj
      rw [← Option.some.inj hj]
      exact ⟨wu, lu⟩
  obtain ⟨us, hl, hu, hDD2, hs⟩ := hI
  obtain ⟨p0, p1, p2, rfl⟩ : ∃ p0 p1 p2, us = [p0, p1, p2] := by
    match us, hl with
    | [x, y, z], _ => exact ⟨x, y, z, rfl⟩
  have v0 := hu 0 p0 rfl
  have v1 := hu 1 p1 rfl
  have v2 := hu 2 p2 rfl
  have hS3 := hs.seq hS2
  have hDD := hs _ _ hDD
  clear hu hl hs st2 hS2 hS1 hS st1
  obtain ⟨r, hrr⟩ : ∃ r, r = nm3 r0 r1 r2 := ⟨_, rfl⟩
  obtain ⟨p, hpp⟩ : ∃ p, p = nm3 p0 p1 p2 := ⟨_, rfl⟩
  have er : ([r0, r1, r2] : List Str) = [r 0, r 1, r 2] := by rw [hrr]; rfl
  have ep : ([p0, p1, p2] : List Str) = [p 0, p 1, p 2] := by rw [hpp]; rfl
  have N : Nm r p := ⟨fun i hi => by
    rw [hrr]
    match i, hi with
    | 0, _ => exact u0
    | 1, _ => exact u1
    | 2, _ => exact u2, fun i hi => by
    rw [hpp]
    match i, hi with
    | 0, _ => exact v0
    | 1, _ => exact v1
    | 2, _ => exact v2⟩
  rw [er] at hDD
  rw [ep] at hDD2
  clear hrr hpp er ep u0 u1 u2 v0 v1 v2
  have c1 : (Str.ofString "recording ").length = 10 := by decide +kernel
  have c2 : (Str.ofString " by S from 5 to 9 length 2 size 3 energy 4 worth 5 rank 2 until 60").length = 66 := by decide +kernel
  have c3 : (Str.ofString "pass ").length = 5 := by decide +kernel
  have c4 : (Str.ofString " by S over T from 12 to 20 room 3 energy 4 fee 5").length = 48 := by decide +kernel
  have zz := sizeLine_eq
  refine ⟨(by show 2 ≤ sizeLine; decide), fun pl hpl => ?_⟩
  have pl0 := same_new hpl (.lst [V.str (Str.ofString "horizon 90"), V.str (Str.ofString "satellite S store 5 battery 60 level 50 reserve 20 charge 1 settle 2 light")])
  refine ⟨_, rfl, .inl ⟨rfl, _, SqL.of upd_same⟩, pl, _, _, rfl, rfl, upd_same, (by show 2 < sizeLine; decide), ?_⟩
  rw [upd_upd]
  have pl1 := same_new hpl (.lst [V.str (Str.ofString "horizon 90"), V.str (Str.ofString "satellite S store 5 battery 60 level 50 reserve 20 charge 1 settle 2 light"), V.str (Str.ofString "station T antennas 2 turn 4")])
  have rl : ∀ x ∈ [r 0, r 1, r 2], x.length ≤ 10 := List.forall_mem_cons.mpr ⟨(N.r 0 (by decide)).2, mem2 (N.r 1 (by decide)).2 (N.r 2 (by decide)).2⟩
  have pl' : ∀ x ∈ [p 0, p 1, p 2], x.length ≤ 10 := List.forall_mem_cons.mpr ⟨(N.p 0 (by decide)).2, mem2 (N.p 1 (by decide)).2 (N.p 2 (by decide)).2⟩
  obtain ⟨b3, hb3⟩ : ∃ b3 : List Str, b3 = [row (wHor 90), row (wSat ⟨Str.ofString "S", 5, 60, 50, 20, 1, 2, []⟩), row (wSta ⟨Str.ofString "T", 2, 4⟩)] := ⟨_, rfl⟩
  have hl0 : (upd H3 pl (.lst [V.str (Str.ofString "horizon 90"), V.str (Str.ofString "satellite S store 5 battery 60 level 50 reserve 20 charge 1 settle 2 light"), V.str (Str.ofString "station T antennas 2 turn 4")])) pl = some (.lst ((b3 ++ (([r 0, r 1, r 2].take 0).map fun n => row (wRec (WJ r p) (recJ n)))).map V.str)) := by
    rw [upd_same, hb3, horJ, satJ, staJ]
    rfl
  have nDp : D ≠ pl := ne_of_none hDD hpl
  refine ⟨_, rfl, D, rfl, ⟨_, SqL.of (pl1 _ _ hDD)⟩, for_list (K := K) (a := D) (xs := [r 0, r 1, r 2].map V.str) (fun i σ H' => ∃ y5 : Option V, σ = [some (.ref a), some (.ref st), some (.ref D), some (.ref D2), some (.ref pl), y5, none, none, none, none, none, none, none, none, none] ∧ H' pl = some (.lst ((b3 ++ (([r 0, r 1, r 2].take i).map fun n => row (wRec (WJ r p) (recJ n)))).map V.str)) ∧ Same H3 H') ⟨none, rfl, hl0, pl1⟩
    (fun i σ H' _ hI => by obtain ⟨_, _, _, hs⟩ := hI; exact SqL.of (hs _ _ hDD)) (fun i x σ H' hx hI => ?_) (fun σ H' hI => ?_)⟩
  · obtain ⟨y5, rfl, hl, hs⟩ := hI
    rw [List.getElem?_map] at hx
    cases e : ([r 0, r 1, r 2])[i]? with
    | none => rw [e] at hx; cases hx
    | some n =>
    rw [e] at hx
    have ex : V.str n = x := Option.some.inj hx
    subst ex
    have hi := (List.getElem?_eq_some_iff.mp e).1
    have ln := rl n (List.mem_of_getElem? e)
    refine ⟨_, rfl, .inl ⟨rfl, _, SqL.of hl⟩, _, rfl, _, _, rfl, rfl, (by omega), _, _, rfl, rfl, (by simp only [len_app]; omega), pl, _, _, rfl, rfl, hl, (by rw [List.length_map, List.length_append, List.length_map, List.length_take, hb3]; show 3 + min i 3 < sizeLine; omega), ?_⟩
    exact ⟨_, rfl, by rw [upd_same, app1, recRow, take_snocX e, List.append_assoc], same_at hpl hs _⟩
  obtain ⟨y5, rfl, hl, hs⟩ := hI
  obtain ⟨b6, hb6⟩ : ∃ b6 : List Str, b6 = b3 ++ ([r 0, r 1, r 2].map fun n => row (wRec (WJ r p) (recJ n))) := ⟨_, rfl⟩
  have hl6 : H' pl = some (.lst ((b6 ++ (([p 0, p 1, p 2].take 0).map fun n => row (wPas (WJ r p) (pasJ n)))).map V.str)) := by
    rw [hl, hb6]
    show _ = some (HO.lst ((b3 ++ _ ++ []).map V.str))
    rw [List.append_nil]
    rfl
  have l6 : b6.length = 6 := by rw [hb6, hb3]; rfl
  refine ⟨_, rfl, D2, rfl, ⟨_, SqL.of (hs _ _ hDD2)⟩, for_list (K := K) (a := D2) (xs := [p 0, p 1, p 2].map V.str) (fun i σ H' => ∃ y5 : Option V, σ = [some (.ref a), some (.ref st), some (.ref D), some (.ref D2), some (.ref pl), y5, none, none, none, none, none, none, none, none, none] ∧ H' pl = some (.lst ((b6 ++ (([p 0, p 1, p 2].take i).map fun n => row (wPas (WJ r p) (pasJ n)))).map V.str)) ∧ Same H3 H') ⟨y5, rfl, hl6, hs⟩
    (fun i σ H' _ hI => by obtain ⟨_, _, _, hs⟩ := hI; exact SqL.of (hs _ _ hDD2)) (fun i x σ H' hx hI => ?_) (fun σ H' hI => ?_)⟩
  · obtain ⟨y5, rfl, hl, hs⟩ := hI
    rw [List.getElem?_map] at hx
    cases e : ([p 0, p 1, p 2])[i]? with
    | none => rw [e] at hx; cases hx
    | some n =>
    rw [e] at hx
    have ex : V.str n = x := Option.some.inj hx
    subst ex
    have hi := (List.getElem?_eq_some_iff.mp e).1
    have ln := pl' n (List.mem_of_getElem? e)
    refine ⟨_, rfl, .inl ⟨rfl, _, SqL.of hl⟩, _, rfl, _, _, rfl, rfl, (by omega), _, _, rfl, rfl, (by simp only [len_app]; omega), pl, _, _, rfl, rfl, hl, (by rw [List.length_map, List.length_append, List.length_map, List.length_take, l6]; show 6 + min i 3 < sizeLine; omega), ?_⟩
    exact ⟨_, rfl, by rw [upd_same, app1, pasRow, take_snocX e, List.append_assoc], same_at hpl hs _⟩
  clear hl hs hl6
  obtain ⟨y6, rfl, hl, hs⟩ := hI
  have hW := WJ_ok N
  have e9 : b6 ++ (([p 0, p 1, p 2].take ([p 0, p 1, p 2].map V.str).length).map fun n => row (wPas (WJ r p) (pasJ n))) = (linesW (WJ r p)).map row := by rw [hb6, hb3, lin_take]; rfl
  rw [e9] at hl
  have l9 : ((linesW (WJ r p)).map row).length = 9 := rfl
  have lok : ∀ x ∈ (linesW (WJ r p)).map row, x.length ≤ 17255 := fun x hx => by
    obtain ⟨l, hl, rfl⟩ := List.mem_map.mp hx
    have h2 := row_len (linesW_ok hW l hl).2.1
    have h3 := (linesW_ok hW l hl).2.2
    omega
  clear hb3 hb6 e9 l6
  have gq : Txt.join (Str.ofString "") (((linesW (WJ r p)).map row).map fun r => r ++ nl) = textW (WJ r p) := by
    rw [show (Str.ofString "" : Str) = Str.empty from rfl, join_nl]
    rfl
  have nl1 : (Str.ofString "\n" : Str).length ≤ 1 := by decide +kernel
  have em0 : (Str.ofString "" : Str).length = 0 := rfl
  generalize hrows : (linesW (WJ r p)).map row = rows at lok gq hl l9
  refine ⟨rfl, ⟨_, rfl⟩, _, rfl, pl, rfl, ⟨_, SqL.of hl⟩, fun D3 hD3 => ?_⟩
  refine lc_list (K := K) (a := pl) (xs := rows.map V.str) (fun i H2' => Same H' H2' ∧ H2' D3 = some (.lst (((rows.take i).map fun r => r ++ nl).map V.str))) ⟨same_new hD3 _, upd_same⟩ (fun i H2' _ h => SqL.of (h.1 _ _ hl)) (fun i x H5 hx hI => ?_) (fun H5 hI => ?_)
  · obtain ⟨hs2, hD3'⟩ := hI
    rw [List.getElem?_map] at hx
    cases e : rows[i]? with
    | none => rw [e] at hx; cases hx
    | some y =>
      rw [e] at hx
      have ex : V.str y = x := Option.some.inj hx
      subst ex
      have hr1' := lok y (List.mem_of_getElem? e)
      have hi := (List.getElem?_eq_some_iff.mp e).1
      refine ⟨rfl, _, rfl, _, _, rfl, rfl, fit_bigX (by omega), _, hD3', ?_, same_at hD3 hs2 _, ?_⟩
      · rw [List.length_map, List.length_map, List.length_take]
        exact small1000 (by omega)
      · rw [upd_same, take_snoc e]
        simp only [List.map_append, List.map_cons, List.map_nil]
        rfl
  obtain ⟨hs2, hD3'⟩ := hI
  rw [List.length_map, List.take_length] at hD3'
  refine ⟨_, D3, _, rfl, rfl, .inl (SqL.of hD3'), (by have := sum_nl rows lok; rw [em0]; omega), ?_⟩
  rw [gq]
  refine ⟨WJ r p, rfl, hW, fun ac H6 hac s6 hWA => ?_⟩
  have s36 := (hs.trans hs2).trans s6
  clear hD3' hs2 s6 hs gq hrows lok l9 hl
  have hS6 := s36.seq hS3
  refine ⟨_, rfl, _, rfl, D, D2, r, p, rfl, SqL.of (s36 _ _ hDD), SqL.of (s36 _ _ hDD2), fun i hi => (N.r i hi).2, fun i hi => (N.p i hi).2, fun cl xs H7 s7 hcl lcl hca => ?_⟩
  have hS7 := s7.seq hS6
  have hWB := hWA.same s7
  refine ⟨_, rfl, _, rfl, a, ns, 8, rfl, hS7, by decide, fun v8 => ?_⟩
  refine ⟨_, rfl, cl, _, rfl, .inl (SqL.of hcl), _, _, rfl, rfl, (by rw [lcl]; show (0 : Int) < 13; decide), ?_⟩
  obtain ⟨k, hk, ek⟩ : ∃ k : Nat, k < 13 ∧ v8 % ((xs.length : Nat) : Int) = (k : Int) := by
    rw [lcl]
    exact ⟨(v8 % 13).toNat, by omega, by omega⟩
  dsimp only
  rw [ek]
  have hck : (casesJ r p)[k]? = some ((casesJ r p)[k]'hk) := List.getElem?_eq_getElem hk
  generalize (casesJ r p)[k]'hk = c at hck
  obtain ⟨v, hv, t, l, rfl, ht, hlr⟩ := hca k c hck
  have C := casesJ_ok N c (List.mem_of_getElem? hck)
  refine ⟨cl, _, _, _, rfl, rfl, SqL.of hcl, atI_nat hv, ?_⟩
  refine ⟨t, _, rfl, SqT.of ht, rfl, _, _, rfl, _, _, rfl, _, _, rfl, _, _, rfl, rfl, ?_⟩
  clear hca hDD hDD2
  have lok : ∀ x ∈ c.1.map row, x.length ≤ 17255 := fun x hx => by
    obtain ⟨l, hl, rfl⟩ := List.mem_map.mp hx
    have h2 := row_lenX (C.wd l hl).wd
    have h3 := (C.wd l hl).sz
    omega
  have gq : Txt.join (Str.ofString "") ((c.1.map row).map fun r => r ++ nl) = glue (c.1.map row) := by
    rw [show (Str.ofString "" : Str) = Str.empty from rfl, join_nl]
  have hspl := split_glueX C.wd
  have hsz := C.sz
  have hgl := glue_lenX C.wd (by omega)
  have hce := C.er
  have hcs := C.st
  have hcl2 : c.1.length ≤ 100 := by omega
  have hok : ∀ l ∈ c.1, LnOk l := fun l hl => (C.wd l hl).ok
  obtain ⟨rw0, ln0, co0, re0⟩ := c
  dsimp only at hlr ht lok gq hspl hgl hce hcs hsz hcl2 hok ⊢
  clear C hck
  generalize hrows : rw0.map row = rows at lok gq hspl hgl hlr
  have lrw : rows.length ≤ 2 := by rw [← hrows, List.length_map]; exact hsz
  refine ⟨⟨_, rfl⟩, _, rfl, l, rfl, ⟨_, SqL.of hlr⟩, fun D4 hD4 => ?_⟩
  refine lc_list (K := K) (a := l) (xs := rows.map V.str) (fun i H' => Same H7 H' ∧ H' D4 = some (.lst (((rows.take i).map fun r => r ++ nl).map V.str))) ⟨same_new hD4 _, upd_same⟩ (fun i H' _ h => SqL.of (h.1 _ _ hlr)) (fun i x H5 hx hI => ?_) (fun H5 hI => ?_)
  · obtain ⟨hs2, hD4'⟩ := hI
    rw [List.getElem?_map] at hx
    cases e : rows[i]? with
    | none => rw [e] at hx; cases hx
    | some y =>
      rw [e] at hx
      have ex : V.str y = x := Option.some.inj hx
      subst ex
      have hr1' := lok y (List.mem_of_getElem? e)
      have hi := (List.getElem?_eq_some_iff.mp e).1
      refine ⟨rfl, _, rfl, _, _, rfl, rfl, fit_bigX (by omega), _, hD4', ?_, same_at hD4 hs2 _, ?_⟩
      · rw [List.length_map, List.length_map, List.length_take]
        exact small1000 (by omega)
      · rw [upd_same, take_snoc e]
        simp only [List.map_append, List.map_cons, List.map_nil]
        rfl
  obtain ⟨hs2, hD4'⟩ := hI
  rw [List.length_map, List.take_length] at hD4'
  refine ⟨_, D4, _, rfl, rfl, .inl (SqL.of hD4'), (by have := sum_nl rows lok; rw [em0]; omega), ?_⟩
  rw [gq]
  refine ⟨_, rfl, ac, WJ r p, glue rows, rw0, (ln0, co0, re0), rfl, hW, hWB.same hs2, by rw [hspl, hrows], hok, hcl2, hgl, hce, fun d H' s' hd => ⟨true, TF.te, fun _ a0 ha => ?_, fun z => Bool.noConfusion z⟩⟩
  have e1 : (tfF ln0 co0 re0).lookup ("line" : Str) = some (.int ln0) := by unfold tfF; exact (lk_miss (by decide +kernel)).trans ((lk_miss (by decide +kernel)).trans lk_hit)
  have e2 : (tfF ln0 co0 re0).lookup ("column" : Str) = some (.int co0) := by unfold tfF; exact (lk_miss (by decide +kernel)).trans lk_hit
  have e3 : (tfF ln0 co0 re0).lookup ("reason" : Str) = some (.str re0) := by unfold tfF; exact lk_hit
  refine ⟨_, rfl, rfl, rfl, d, _, _, rfl, hd, e1, _, rfl, rfl, rfl, d, _, _, rfl, hd, e2, _, rfl, rfl, rfl, d, _, _, rfl, hd, e3, (by show 3 ≤ sizeLine; decide), fun t1 ht1 => ?_⟩
  refine ⟨_, rfl, _, rfl, _, rfl, (by show 3 ≤ sizeLine; decide), fun t2 ht2 => ?_⟩
  exact ⟨.ref t1, .ref t2, .tuple [.int ln0, .int co0, .str re0], rfl, ⟨by show 3 ≤ 1000; decide, by intro z hz; simp at hz; rcases hz with rfl | rfl | rfl <;> exact True.intro⟩, dp_same (same_new ht2 _) (.tup (SqT.of upd_same) (.cons (.int _) (.cons (.int _) (.cons (.str _) .nil)))), .tup (SqT.of upd_same) (.cons (.int _) (.cons (.int _) (.cons (.str _) .nil))), q _⟩
end
end DP
namespace DP
open PySem PySem.Spec PyProof.Rows L2
theorem sz4_ : 4 ≤ sizeLine := Nat.le_trans (by decide : 4 ≤ 1000) (Nat.le_of_lt (small1000 (Nat.le_refl _)))
theorem tf_mk {h : Heap} {K : PySem.W.Frag} {mg : Str → Option Value} {CT fI cda cc N : Addr} {oc kV doc pm ct cl ccl : Value} {od an cld cdd dd : Option Addr} {osl csl ccs : Array (Option Value)} {vs : Array Value} {tf : Tok}
    {nm q : Str} {bs bm sub : List Value} {sn : List Str} {ab : Bool} {col : Option Bool} {k0 k1 k2 k3 k5 : Option Value} (X : K.In h) (G : h.Ns mainGlobals mg) (g : PySem.W.nsIn K mainGlobals "TextFault" = some (some (.ref CT)))
    (a : PySem.W.findIn K (.ref CT) "__init__" = some (some (.ref fI))) (ty : PySem.W.typeIn K (.ref fI) = some (.type "function"))
    (l : K.lookup fI = some ⟨oc, od, .func (PySem.W.ksFn "__init__" "TextFault.__init__" (defArgs s_TextFault___init__) (defBody s_TextFault___init__) (defScope s_TextFault___init__) .none kV doc pm an (.ref cda) ct cc), osl⟩)
    (c : PySem.W.codeIn K (.ref cda) "TextFault.__init__" = true) (ox : K.lookup CT = some (excClassObj nm q CT N bs bm true sn sub ab col dd k0 k1 k2 k3 k5 "ValueError.__new__")) (hbm : PySem.HandSPX.refsVE bm = true)
    (sa : PySem.W.findIn K (.ref CT) "__setattr__" = some (some (.builtin "object.__setattr__"))) (exC : PySem.W.subIn K (.ref CT) (.type "BaseException") = some true) (tyC : PySem.W.typeIn K (.ref CT) = some (.type "type")) (kC : PySem.W.keepIn K (.ref CT) = true)
    (sb : PySem.W.subIn K (.ref CT) (.type "ValueError") = some true) (along : PySem.W.ks_superIn K CT CT "__init__" = some (some (.builtin "ValueError.__init__"))) (third : PySem.W.nsIn K cStatics "thirdparty.any" = some none)
    (su : PySem.W.nsIn K mainGlobals "super" = some none) (cd1 : K.lookup cda = some ⟨ccl, cdd, .fields vs, ccs⟩) (cd2 : vs[2]? = some (.str "/claim/cut.py" tf)) (ce : K.lookup cc = some ⟨cl, cld, .cell (some (.ref CT)), csl⟩)
    (nl : PySem.W.findIn K (.ref CT) "line" = some none) (nc : PySem.W.findIn K (.ref CT) "column" = some none) (nr : PySem.W.findIn K (.ref CT) "reason" = some none)
    (ga : PySem.W.findIn K (.ref CT) "__getattribute__" = some (some (.builtin "BaseException.__getattribute__"))) (gg : PySem.W.findIn K (.ref CT) "__getattr__" = some none) (hd : PySem.W.hasDictIn K CT = true)
    (iT : PySem.W.isClsIn K CT = true) (sT : PySem.W.subIn K (.ref CT) (.ref CT) = some true) : TfAt K mg CT :=
  ⟨PySem.W.mg_of X G g, ⟨fI, cda, cc, oc, kV, doc, pm, ct, od, an, osl, a, ty, l, c, ⟨⟨⟨nm, q, N, bs, bm, sn, sub, ab, col, dd, k0, k1, k2, k3, k5, ox, hbm⟩, sa, exC, tyC, kC⟩, sb, along, third, PySem.W.mg_none_of X G su, ⟨ccl, cdd, vs, ccs, tf, cd1, cd2⟩, ⟨cl, cld, csl, ce⟩⟩⟩,
    nl, nc, nr, ⟨ga, gg, exC, hd⟩, iT, sT, exC, tyC⟩
end DP
namespace DP
open PySem PySem.Spec PyProof.Rows L2
section
variable {h : Heap} {K : PySem.W.Frag} {mg : Str → Option Value} {x m qual : Str} {st : Stmt} {ps : List Str} {C f p T : Addr} {oc oc' kV doc pm cdv ct : Value} {od od' an : Option Addr} {osl osl' : Array (Option Value)} {rest : List Value}
theorem cls_mk (X : K.In h) (G : h.Ns mainGlobals mg) (g : PySem.W.nsIn K mainGlobals x = some (some (.ref C))) (pg : PySem.W.plainGet K C Str.empty = true) (hd : PySem.W.hasDictIn K C = true) (po : PySem.W.plainOver K C = true)
    (sa : PySem.W.findIn K (.ref C) "__setattr__" = some (some (.builtin "object.__setattr__"))) (mk : PySem.W.makesIn K C = true) (kp : PySem.W.keepIn K (.ref C) = true) : ClsAt K mg x C := ⟨⟨pg, hd, po, sa⟩, mk, kp, PySem.W.mg_of X G g⟩
theorem met_mk (a : PySem.W.findIn K (.ref C) m = some (some (.ref f))) (i : PySem.W.isFn K (.ref f) = true) (l : K.lookup f = some ⟨oc, od, .func (PySem.W.fnOf m qual (defArgs st) (defBody st) (defScope st) .none kV doc pm an cdv ct), osl⟩)
    (c : PySem.W.codeIn K cdv qual = true) (k : PySem.W.keepIn K (.ref f) = true)
    (hb : ∀ (kV doc pm : Value) (an : Option Addr) (cdv ct : Value) (us : List Value), us.length = ps.length → bindArgs (PySem.W.fnOf m qual (defArgs st) (defBody st) (defScope st) .none kV doc pm an cdv ct) ⟨us, []⟩ = pure (ps.zip us)) : MAt K C m qual st ps := by
  have F := fun_mk (st := st) l c k
  exact ⟨f, _, F, ⟨a, i, k⟩, F.binds hb⟩
/-- one default, an int -/
theorem metD_mk {d : Int} {t : Tok} {n : Nat} (a : PySem.W.findIn K (.ref C) m = some (some (.ref f))) (i : PySem.W.isFn K (.ref f) = true) (l : K.lookup f = some ⟨oc, od, .func (PySem.W.fnOf m qual (defArgs st) (defBody st) (defScope st) (.ref T) kV doc pm an cdv ct), osl⟩)
    (lT : K.lookup T = some ⟨oc', od', .seq #[.int d t] n, osl'⟩)
    (c : PySem.W.codeIn K cdv qual = true) (k : PySem.W.keepIn K (.ref f) = true) (j : Nat) (hn : j + 1 = ps.length)
    (hb : ∀ (T : Addr) (kV doc pm : Value) (an : Option Addr) (cdv ct : Value) (us its : List Value), us.length = j → its.length = 1 →
      ∃ k, bindArgs (PySem.W.fnOf m qual (defArgs st) (defBody st) (defScope st) (.ref T) kV doc pm an cdv ct) ⟨us, []⟩ = seqItems? (.ref T) >>= k ∧ k (some its.toArray) = pure (ps.zip (us ++ its.drop 0))) : MAtD K C m qual st ps [.int d] := by
  have F : FunD K m qual (defArgs st) (defBody st) (defScope st) [.int d] [] f (PySem.W.fnOf m qual (defArgs st) (defBody st) (defScope st) (.ref T) kV doc pm an cdv ct) :=
    ⟨⟨oc, od, .ref T, kV, doc, pm, an, cdv, ct, osl, rfl, l, c, .inr ⟨List.cons_ne_nil _ _, T, _, [.int d t], n, rfl, lT, rfl, .cons ⟨t, rfl⟩ .nil⟩, .inl rfl⟩, k⟩
  obtain ⟨ds, v, b⟩ := F.binds1 (ps := ps) j 0 (List.cons_ne_nil _ _) hn hb
  exact ⟨f, _, ds, F, ⟨a, i, k⟩, b, v⟩
theorem smet_mk (a : PySem.W.findCls K (.ref C) (.type "type") m = some (.get (.builtin "staticmethod.__get__") (.ref p) .none (.ref C))) (r : PySem.W.recIn K p "staticmethod" = some (.ref f :: rest))
    (l : K.lookup f = some ⟨oc, od, .func (PySem.W.fnOf m qual (defArgs st) (defBody st) (defScope st) .none kV doc pm an cdv ct), osl⟩)
    (c : PySem.W.codeIn K cdv qual = true) (k : PySem.W.keepIn K (.ref f) = true)
    (hb : ∀ (kV doc pm : Value) (an : Option Addr) (cdv ct : Value) (us : List Value), us.length = ps.length → bindArgs (PySem.W.fnOf m qual (defArgs st) (defBody st) (defScope st) .none kV doc pm an cdv ct) ⟨us, []⟩ = pure (ps.zip us)) : SAt K C m qual st ps := by
  have F := fun_mk (st := st) l c k
  exact ⟨f, _, F, ⟨p, rest, a, r⟩, F.binds hb⟩
theorem int_mk {i : Int} {t : Tok} (X : K.In h) (G : h.Ns mainGlobals mg) (g : PySem.W.nsIn K mainGlobals x = some (some (.int i t))) : ∃ t, mg x = some (.int i t) := ⟨t, PySem.W.mg_of X G g⟩
theorem str_mk {z : Str} {t : Tok} (X : K.In h) (G : h.Ns mainGlobals mg) (g : PySem.W.nsIn K mainGlobals x = some (some (.str z t))) : ∃ t, mg x = some (.str z t) := ⟨t, PySem.W.mg_of X G g⟩
theorem cval_mk {i : Int} {t : Tok} (g : PySem.W.findCls K (.ref C) (.type "type") x = some (.val (.int i t))) : ∃ t, ClX.CVal K C (.type "type") x (.int i) (.int i t) := ⟨t, g, ⟨t, rfl⟩⟩
theorem tup4s_mk {a b c d : Str} {t0 t1 t2 t3 : Tok} {n : Nat} (l : K.lookup T = some ⟨.type "tuple", none, .seq #[.str a t0, .str b t1, .str c t2, .str d t3] n, osl⟩) : ∀ H, SqT K H T (([a, b, c, d]).map V.str) := fun H =>
  .inr ⟨_, _, _, l, rfl, rfl, by show 4 ≤ sizeLine; exact sz4_, .cons ⟨_, rfl⟩ (.cons ⟨_, rfl⟩ (.cons ⟨_, rfl⟩ (.cons ⟨_, rfl⟩ .nil)))⟩
theorem tup4r_mk {a b c d : Addr} {n : Nat} (l : K.lookup T = some ⟨.type "tuple", none, .seq #[.ref a, .ref b, .ref c, .ref d] n, osl⟩) : ∀ H, SqT K H T [.ref a, .ref b, .ref c, .ref d] := fun H =>
  .inr ⟨_, _, _, l, rfl, rfl, by show 4 ≤ sizeLine; exact sz4_, .cons rfl (.cons rfl (.cons rfl (.cons rfl .nil)))⟩
theorem tupk_mk {its : Array Value} {n : Nat} (l : K.lookup T = some ⟨.type "tuple", none, .seq its n, osl⟩) : ∃ o, K.lookup T = some o ∧ o.cls = .type "tuple" ∧ o.dict = none := ⟨_, l, rfl, rfl⟩
end
end DP
namespace DP
open PySem PySem.Spec PyProof.Rows L2
theorem metF_mk {K : PySem.W.Frag} {m qual : Str} {st : Stmt} {ps : List Str} {C f T : Addr} {oc oc' kV doc pm cdv ct : Value} {od od' an : Option Addr} {osl osl' : Array (Option Value)} {d : Int} {t : Tok} {n : Nat} (a : PySem.W.findIn K (.ref C) m = some (some (.ref f))) (i : PySem.W.isFn K (.ref f) = true) (l : K.lookup f = some ⟨oc, od, .func (PySem.W.fnOf m qual (defArgs st) (defBody st) (defScope st) (.ref T) kV doc pm an cdv ct), osl⟩)
    (lT : K.lookup T = some ⟨oc', od', .seq #[.int d t] n, osl'⟩)
    (c : PySem.W.codeIn K cdv qual = true) (k : PySem.W.keepIn K (.ref f) = true)
    (hb : ∀ (T : Addr) (kV doc pm : Value) (an : Option Addr) (cdv ct : Value) (us its : List Value), us.length = ps.length → its.length = 1 →
      ∃ k, bindArgs (PySem.W.fnOf m qual (defArgs st) (defBody st) (defScope st) (.ref T) kV doc pm an cdv ct) ⟨us, []⟩ = seqItems? (.ref T) >>= k ∧ k (some its.toArray) = pure (ps.zip (us ++ its.drop 1))) : MAtF K C m qual st ps [.int d] := by
  have F : FunD K m qual (defArgs st) (defBody st) (defScope st) [.int d] [] f (PySem.W.fnOf m qual (defArgs st) (defBody st) (defScope st) (.ref T) kV doc pm an cdv ct) :=
    ⟨⟨oc, od, .ref T, kV, doc, pm, an, cdv, ct, osl, rfl, l, c, .inr ⟨List.cons_ne_nil _ _, T, _, [.int d t], n, rfl, lT, rfl, .cons ⟨t, rfl⟩ .nil⟩, .inl rfl⟩, k⟩
  obtain ⟨ds, v, b⟩ := F.binds1 (ps := ps) ps.length 1 (List.cons_ne_nil _ _) (by simp) hb
  cases v
  exact ⟨f, _, F, ⟨a, i, k⟩, b⟩
theorem hb2_known : ∀ (T : Addr) (kV doc pm : Value) (an : Option Addr) (cdv ct : Value) (us its : List Value), us.length = (["self", "names", "least"] : List Str).length → its.length = 1 →
    ∃ k, bindArgs (PySem.W.fnOf "read_known_name" "Line.read_known_name" (defArgs s_Line_read_known_name) (defBody s_Line_read_known_name) (defScope s_Line_read_known_name) (.ref T) kV doc pm an cdv ct) ⟨us, []⟩ = seqItems? (.ref T) >>= k ∧ k (some its.toArray) = pure ((["self", "names", "least"] : List Str).zip (us ++ its.drop 1)) :=
  fun _ _ _ _ _ _ _ us its h1 h2 => match us, its, h1, h2 with | [_, _, _], [_], _, _ => ⟨_, rfl, rfl⟩
theorem the_law {P : Program} {w : World} {K : PySem.W.Frag} {mg : Str → Option Value} {base : Heap} {CL CS CT CR CP CW CB aS aR fS fT fR fP : Addr} (T : TxtW K mg CL CS CT CR CP CW aS aR fS fT fR fP) (F : PF K mg CL CS CT CR CP CW)
    (a1 : At K mg "_law_cell" s__law_cell ["_law_script", "_law_k"]) (a2 : At K mg "_law_draws" s__law_draws ["_law_cell_here", "_law_count"]) (a3 : At K mg "_law_stream" s__law_stream ["_law_script", "_law_first", "_law_count"]) (a4 : At K mg "_law_next" s__law_next ["_law_stream_here", "_law_many"])
    (a5 : At K mg "_law_word" s__law_word ["_law_stream_here", "_law_index"]) (b4 : At K mg "_law_is_integer" s__law_is_integer ["_law_actual"]) (b5 : At K mg "_law_same" s__law_same ["_law_actual", "_law_expected"])
    (b6 : At K mg "_law_cases" s__law_cases ["_law_r", "_law_p"]) (RF : MAt K CL "refuse" "Line.refuse" s_Line_refuse ["self", "reason"]) (e0 : At K mg "empty_plan" s_empty_plan ["world"]) (e1 : At K mg "with_entry" s_with_entry ["entries", "number", "entry"]) (e2 : At K mg "read_make" s_read_make ["line", "world", "least"]) (e3 : At K mg "read_take" s_read_take ["line", "world", "least"]) (e4 : At K mg "parse_plan" s_parse_plan ["text", "world"])
    (b8 : At K mg "law" s_law ["_law_script"]) (TF : TfAt K mg CB) (SP : SupP P) (TP : TxtPm mg) (KF : MAtF K CL "read_known_name" "Line.read_known_name" s_Line_read_known_name ["self", "names", "least"] [.int 0]) : DefOk P w K mg base CX0 9 "law" ["_law_script"] (spLaw K) := by
  have L := T.L
  have B := L.B
  have D_cell : DefOk P w K mg base CX0 1 "_law_cell" _ (DP.spCell K) := d_cell B a1
  have D_stream : DefOk P w K mg base CX0 2 "_law_stream" _ (spStream K) := d_stream (d_stream0 B D_cell (d_draws B a2) a3)
  have D_next : DefOk P w K mg base CX0 1 "_law_next" _ spNext := d_next (d_next0 B a4)
  have D_word : DefOk P w K mg base CX0 2 "_law_word" _ spWordL := d_wordL B D_next a5
  have D_init : MDef P w K mg base CX0 1 CL "__init__" _ [] _ := d_Line_initX L F.p_Line___init__
  have D_more : MDef P w K mg base (L2N.CX P w) 1 CL "has_more" _ [] _ := (d_has_moreX L F.p_Line_has_more).up
  have D_step : MDef P w K mg base (L2N.CX P w) 1 CL "step" _ [] _ := (d_stepX L F.p_Line_step).up
  have D_ref : MDef P w K mg base (L2N.CX P w) 3 CL "refuse" _ [] _ := d_refuse L TF SP RF
  have D_due := d_dueX L D_more D_ref F.p_Line_due
  have D_choice := d_read_choiceX L D_due D_ref D_step F.p_Line_read_choice
  have D_isnum : DefOk P w K mg base (L2N.CX P w) 1 "is_number" _ _ := (d_is_numberX L F.p_is_number).up
  have D_number := d_read_numberX L D_isnum D_due D_ref D_step F.p_Line_read_number
  have D_field := d_read_fieldX L D_choice D_number F.p_Line_read_field
  have D_isname : DefOk P w K mg base (L2N.CX P w) 1 "is_name" _ _ := (d_is_nameX L F.p_is_name).up
  have D_due_name := d_due_nameX L D_isname D_due D_ref F.p_Line_due_name
  have D_known := d_read_known_nameX L D_due_name D_ref D_step F.p_Line_read_known_name
  have D_known2 := d_read_known_nameX2 L D_due_name D_ref D_step KF
  have D_finish := d_finishX L D_more D_due D_ref F.p_Line_finish
  have D_lines : DefOk P w K mg base (L2N.CX P w) 4 "lines_of" _ _ := d_lines_ofX L TF SP D_init F.p_lines_of
  have D_names : DefOk P w K mg base (L2N.CX P w) 1 "names_of" _ _ := (d_names_ofT B F.p_names_of).up
  have D_plan := d_parse_planX T (d_empty_planX T e0).up D_lines D_choice D_finish (d_read_makeX T D_names D_field D_choice D_known D_known2 e2) (d_read_takeX T TP D_names D_field D_known2 e3) (d_with_entry e1).up e4
  exact d_law T TF D_cell D_stream D_word (d_cases B b6) (d_sameH B (d_is_integerH B b4) b5 2) (prog_parse T F) D_plan b8
theorem hb__law_cell : ∀ (kV doc pm : Value) (an : Option Addr) (cdv ct : Value) (us : List Value), us.length = (["_law_script", "_law_k"] : List Str).length → bindArgs (PySem.W.fnOf "_law_cell" "_law_cell" (defArgs s__law_cell) (defBody s__law_cell) (defScope s__law_cell) .none kV doc pm an cdv ct) ⟨us, []⟩ = pure ((["_law_script", "_law_k"] : List Str).zip us) :=
  fun _ _ _ _ _ _ us hl => match us, hl with | [_, _], _ => rfl
theorem hb__law_draws : ∀ (kV doc pm : Value) (an : Option Addr) (cdv ct : Value) (us : List Value), us.length = (["_law_cell_here", "_law_count"] : List Str).length → bindArgs (PySem.W.fnOf "_law_draws" "_law_draws" (defArgs s__law_draws) (defBody s__law_draws) (defScope s__law_draws) .none kV doc pm an cdv ct) ⟨us, []⟩ = pure ((["_law_cell_here", "_law_count"] : List Str).zip us) :=
  fun _ _ _ _ _ _ us hl => match us, hl with | [_, _], _ => rfl
theorem hb__law_stream : ∀ (kV doc pm : Value) (an : Option Addr) (cdv ct : Value) (us : List Value), us.length = (["_law_script", "_law_first", "_law_count"] : List Str).length → bindArgs (PySem.W.fnOf "_law_stream" "_law_stream" (defArgs s__law_stream) (defBody s__law_stream) (defScope s__law_stream) .none kV doc pm an cdv ct) ⟨us, []⟩ = pure ((["_law_script", "_law_first", "_law_count"] : List Str).zip us) :=
  fun _ _ _ _ _ _ us hl => match us, hl with | [_, _, _], _ => rfl
theorem hb__law_next : ∀ (kV doc pm : Value) (an : Option Addr) (cdv ct : Value) (us : List Value), us.length = (["_law_stream_here", "_law_many"] : List Str).length → bindArgs (PySem.W.fnOf "_law_next" "_law_next" (defArgs s__law_next) (defBody s__law_next) (defScope s__law_next) .none kV doc pm an cdv ct) ⟨us, []⟩ = pure ((["_law_stream_here", "_law_many"] : List Str).zip us) :=
  fun _ _ _ _ _ _ us hl => match us, hl with | [_, _], _ => rfl
theorem hb__law_word : ∀ (kV doc pm : Value) (an : Option Addr) (cdv ct : Value) (us : List Value), us.length = (["_law_stream_here", "_law_index"] : List Str).length → bindArgs (PySem.W.fnOf "_law_word" "_law_word" (defArgs s__law_word) (defBody s__law_word) (defScope s__law_word) .none kV doc pm an cdv ct) ⟨us, []⟩ = pure ((["_law_stream_here", "_law_index"] : List Str).zip us) :=
  fun _ _ _ _ _ _ us hl => match us, hl with | [_, _], _ => rfl
theorem hb__law_is_integer : ∀ (kV doc pm : Value) (an : Option Addr) (cdv ct : Value) (us : List Value), us.length = (["_law_actual"] : List Str).length → bindArgs (PySem.W.fnOf "_law_is_integer" "_law_is_integer" (defArgs s__law_is_integer) (defBody s__law_is_integer) (defScope s__law_is_integer) .none kV doc pm an cdv ct) ⟨us, []⟩ = pure ((["_law_actual"] : List Str).zip us) :=
  fun _ _ _ _ _ _ us hl => match us, hl with | [_], _ => rfl
theorem hb__law_same : ∀ (kV doc pm : Value) (an : Option Addr) (cdv ct : Value) (us : List Value), us.length = (["_law_actual", "_law_expected"] : List Str).length → bindArgs (PySem.W.fnOf "_law_same" "_law_same" (defArgs s__law_same) (defBody s__law_same) (defScope s__law_same) .none kV doc pm an cdv ct) ⟨us, []⟩ = pure ((["_law_actual", "_law_expected"] : List Str).zip us) :=
  fun _ _ _ _ _ _ us hl => match us, hl with | [_, _], _ => rfl
theorem hb__law_cases : ∀ (kV doc pm : Value) (an : Option Addr) (cdv ct : Value) (us : List Value), us.length = (["_law_r", "_law_p"] : List Str).length → bindArgs (PySem.W.fnOf "_law_cases" "_law_cases" (defArgs s__law_cases) (defBody s__law_cases) (defScope s__law_cases) .none kV doc pm an cdv ct) ⟨us, []⟩ = pure ((["_law_r", "_law_p"] : List Str).zip us) :=
  fun _ _ _ _ _ _ us hl => match us, hl with | [_, _], _ => rfl
theorem hb_Line_refuse : ∀ (kV doc pm : Value) (an : Option Addr) (cdv ct : Value) (us : List Value), us.length = (["self", "reason"] : List Str).length → bindArgs (PySem.W.fnOf "refuse" "Line.refuse" (defArgs s_Line_refuse) (defBody s_Line_refuse) (defScope s_Line_refuse) .none kV doc pm an cdv ct) ⟨us, []⟩ = pure ((["self", "reason"] : List Str).zip us) :=
  fun _ _ _ _ _ _ us hl => match us, hl with | [_, _], _ => rfl
theorem hb_empty_plan : ∀ (kV doc pm : Value) (an : Option Addr) (cdv ct : Value) (us : List Value), us.length = (["world"] : List Str).length → bindArgs (PySem.W.fnOf "empty_plan" "empty_plan" (defArgs s_empty_plan) (defBody s_empty_plan) (defScope s_empty_plan) .none kV doc pm an cdv ct) ⟨us, []⟩ = pure ((["world"] : List Str).zip us) :=
  fun _ _ _ _ _ _ us hl => match us, hl with | [_], _ => rfl
theorem hb_with_entry : ∀ (kV doc pm : Value) (an : Option Addr) (cdv ct : Value) (us : List Value), us.length = (["entries", "number", "entry"] : List Str).length → bindArgs (PySem.W.fnOf "with_entry" "with_entry" (defArgs s_with_entry) (defBody s_with_entry) (defScope s_with_entry) .none kV doc pm an cdv ct) ⟨us, []⟩ = pure ((["entries", "number", "entry"] : List Str).zip us) :=
  fun _ _ _ _ _ _ us hl => match us, hl with | [_, _, _], _ => rfl
theorem hb_read_make : ∀ (kV doc pm : Value) (an : Option Addr) (cdv ct : Value) (us : List Value), us.length = (["line", "world", "least"] : List Str).length → bindArgs (PySem.W.fnOf "read_make" "read_make" (defArgs s_read_make) (defBody s_read_make) (defScope s_read_make) .none kV doc pm an cdv ct) ⟨us, []⟩ = pure ((["line", "world", "least"] : List Str).zip us) :=
  fun _ _ _ _ _ _ us hl => match us, hl with | [_, _, _], _ => rfl
theorem hb_read_take : ∀ (kV doc pm : Value) (an : Option Addr) (cdv ct : Value) (us : List Value), us.length = (["line", "world", "least"] : List Str).length → bindArgs (PySem.W.fnOf "read_take" "read_take" (defArgs s_read_take) (defBody s_read_take) (defScope s_read_take) .none kV doc pm an cdv ct) ⟨us, []⟩ = pure ((["line", "world", "least"] : List Str).zip us) :=
  fun _ _ _ _ _ _ us hl => match us, hl with | [_, _, _], _ => rfl
theorem hb_parse_plan : ∀ (kV doc pm : Value) (an : Option Addr) (cdv ct : Value) (us : List Value), us.length = (["text", "world"] : List Str).length → bindArgs (PySem.W.fnOf "parse_plan" "parse_plan" (defArgs s_parse_plan) (defBody s_parse_plan) (defScope s_parse_plan) .none kV doc pm an cdv ct) ⟨us, []⟩ = pure ((["text", "world"] : List Str).zip us) :=
  fun _ _ _ _ _ _ us hl => match us, hl with | [_, _], _ => rfl
theorem hb_law : ∀ (kV doc pm : Value) (an : Option Addr) (cdv ct : Value) (us : List Value), us.length = (["_law_script"] : List Str).length → bindArgs (PySem.W.fnOf "law" "law" (defArgs s_law) (defBody s_law) (defScope s_law) .none kV doc pm an cdv ct) ⟨us, []⟩ = pure ((["_law_script"] : List Str).zip us) :=
  fun _ _ _ _ _ _ us hl => match us, hl with | [_], _ => rfl
theorem fin {l : PySem.W.OpenLaw} {w : World} {K : PySem.W.Frag} {mg : Str → Option Value} {fa CL CS CT CR CP CW aS aR fS fT fR fP CB : Addr} (hfa : mg "law" = some (.ref fa)) (T : TxtW K mg CL CS CT CR CP CW aS aR fS fT fR fP) (F : PF K mg CL CS CT CR CP CW)
    (a__law_cell : At K mg "_law_cell" s__law_cell ["_law_script", "_law_k"])
    (a__law_draws : At K mg "_law_draws" s__law_draws ["_law_cell_here", "_law_count"])
    (a__law_stream : At K mg "_law_stream" s__law_stream ["_law_script", "_law_first", "_law_count"])
    (a__law_next : At K mg "_law_next" s__law_next ["_law_stream_here", "_law_many"])
    (a__law_word : At K mg "_law_word" s__law_word ["_law_stream_here", "_law_index"])
    (a__law_is_integer : At K mg "_law_is_integer" s__law_is_integer ["_law_actual"])
    (a__law_same : At K mg "_law_same" s__law_same ["_law_actual", "_law_expected"])
    (a__law_cases : At K mg "_law_cases" s__law_cases ["_law_r", "_law_p"])
    (a_Line_refuse : MAt K CL "refuse" "Line.refuse" s_Line_refuse ["self", "reason"])
    (a_empty_plan : At K mg "empty_plan" s_empty_plan ["world"])
    (a_with_entry : At K mg "with_entry" s_with_entry ["entries", "number", "entry"])
    (a_read_make : At K mg "read_make" s_read_make ["line", "world", "least"])
    (a_read_take : At K mg "read_take" s_read_take ["line", "world", "least"])
    (a_parse_plan : At K mg "parse_plan" s_parse_plan ["text", "world"])
    (a_law : At K mg "law" s_law ["_law_script"])
    (TF : TfAt K mg CB)
    (SP : SupP l.prog)
    (TP : TxtPm mg)
    (KF : MAtF K CL "read_known_name" "Line.read_known_name" s_Line_read_known_name ["self", "names", "least"] [.int 0])
    : ∃ fd : FuncData, (∀ (s : Shared) (v : Value), BindsTo s fd ⟨[v], []⟩ [("_law_script", v)]) ∧ ∀ base : Heap, K.In base → base.Ns mainGlobals mg → FnOk l.prog w K mg base CX0 9 fa fd ["_law_script"] (spLaw K) :=
  a_law.end_ hfa (fun base => the_law T F a__law_cell a__law_draws a__law_stream a__law_next a__law_word a__law_is_integer a__law_same a__law_cases a_Line_refuse a_empty_plan a_with_entry a_read_make a_read_take a_parse_plan a_law TF SP TP KF) (fun _ _ _ _ _ _ _ => rfl)
end DP
open PySem PySem.W PyProof.Rows
set_option maxHeartbeats 0 in
theorem PySem.Challenge.cw_downpass_k11_faults_of_plans_holds : PySem.Challenge.rw_downpass_k11_faults_of_plans.Holds := by
  w_on; o_law; k_head; (case hw => w_witness2)
  k_fill
  refine L2.walk_of (l := PySem.Challenge.rw_downpass_k11_faults_of_plans) (n := 63) (k := 9) (x := "_law_script") (CX := fun _ => L2.CX0) (sp := fun w => DP.spLaw _) rfl (by decide) rfl ⟨rfl, by decide, by decide⟩ (fun w h Y => PySem.W.kIn_of Y) ?F (fun _ _ a ns hl _ hS => ⟨a, ns, rfl, hS, fun _ => rfl⟩) (fun _ _ _ _ _ h => h)
  case F =>
    intro w mg fa h KX G hmg
    refine' DP.fin hmg ⟨⟨⟨?z_len, ?z_range, ?z_int, ?z_abs, ?z_isinstance, ?z_bool, ?z_str, ?z_tuple, ?z_list, ?z_min, ?z_all, ?z_enumerate⟩, ?c_Line, ?n_Line_number, ?n_Line_words, ?n_Line_read, ?n_Line_column, ?g_LETTERS, ?g_DIGITS, ?g_MOST_NAME, ?g_MOST_DIGITS⟩, ?c_Satellite, ?c_Station, ?c_Recording, ?c_Pass, ?c_World, ?n_Satellite_name, ?n_Satellite_store, ?n_Satellite_battery, ?n_Satellite_start_level, ?n_Satellite_reserve, ?n_Satellite_charge, ?n_Satellite_settle, ?n_Satellite_light, ?n_Station_name, ?n_Station_antennas, ?n_Station_turn, ?n_Recording_name, ?n_Recording_satellite, ?n_Recording_earliest, ?n_Recording_latest, ?n_Recording_length, ?n_Recording_size, ?n_Recording_energy, ?n_Recording_worth, ?n_Recording_rank, ?n_Recording_deadline, ?n_Pass_name, ?n_Pass_satellite, ?n_Pass_station, ?n_Pass_span, ?n_Pass_room, ?n_Pass_energy, ?n_Pass_fee, ?n_World_text, ?n_World_horizon, ?n_World_satellites, ?n_World_stations, ?n_World_recordings, ?n_World_passes, ?g_SATELLITES, ?g_STATIONS, ?g_RECORDINGS, ?g_PASSES, ?g_MOST_UNITS, ?g_MOST_CHARGE, ?g_MOST_DELAY, ?g_MOST_ANTENNAS, ?g_MOST_WORTH, ?g_MOST_RANK, ?g_MOST_FEE, ?g_SORTS, ?t_SORTS, ?k_SORTS, ?g_READERS, ?t_READERS, ?r_satellite, ?r_station, ?r_recording, ?r_pass, ?rdW, ?v_MOST_HORIZON, ?v_MOST_SATELLITES, ?v_MOST_STATIONS, ?v_MOST_RECORDINGS, ?v_MOST_PASSES, ?v_MOST_SHIFT⟩ ⟨?p_names_of, ?p_read_light, ?p_read_satellite, ?p_read_station, ?p_read_recording, ?p_read_pass, ?p_most_things, ?p_read_sort, ?p_read_things, ?p_lines_of, ?p_is_name, ?p_is_number, ?p_Line___init__, ?p_Line_has_more, ?p_Line_due, ?p_Line_step, ?p_Line_read_choice, ?p_Line_read_number, ?p_Line_read_field, ?p_Line_due_name, ?p_Line_read_new_name, ?p_Line_read_known_name, ?p_Line_finish, ?p_Satellite___init__, ?p_Station___init__, ?p_Recording___init__, ?p_Pass___init__, ?p_World___init__, ?p_World_parse⟩ ?a__law_cell ?a__law_draws ?a__law_stream ?a__law_next ?a__law_word ?a__law_is_integer ?a__law_same ?a__law_cases ?a_Line_refuse ?a_empty_plan ?a_with_entry ?a_read_make ?a_read_take ?a_parse_plan ?a_law ?TF ?SP ?TP ?KF
    (case c_Line => (refine' DP.cls_mk KX G ?g_u17 ?pg_u17 ?hd_u17 ?po_u17 ?sa_u17 ?mk_u17 ?kp_u17; (case g_u17 => k_is); (case pg_u17 => k_is); (case hd_u17 => k_is); (case po_u17 => k_is); (case sa_u17 => k_is); (case mk_u17 => k_is); (case kp_u17 => k_is)))
    (case c_Satellite => (refine' DP.cls_mk KX G ?g_u18 ?pg_u18 ?hd_u18 ?po_u18 ?sa_u18 ?mk_u18 ?kp_u18; (case g_u18 => k_is); (case pg_u18 => k_is); (case hd_u18 => k_is); (case po_u18 => k_is); (case sa_u18 => k_is); (case mk_u18 => k_is); (case kp_u18 => k_is)))
    (case c_Station => (refine' DP.cls_mk KX G ?g_u19 ?pg_u19 ?hd_u19 ?po_u19 ?sa_u19 ?mk_u19 ?kp_u19; (case g_u19 => k_is); (case pg_u19 => k_is); (case hd_u19 => k_is); (case po_u19 => k_is); (case sa_u19 => k_is); (case mk_u19 => k_is); (case kp_u19 => k_is)))
    (case c_Recording => (refine' DP.cls_mk KX G ?g_u20 ?pg_u20 ?hd_u20 ?po_u20 ?sa_u20 ?mk_u20 ?kp_u20; (case g_u20 => k_is); (case pg_u20 => k_is); (case hd_u20 => k_is); (case po_u20 => k_is); (case sa_u20 => k_is); (case mk_u20 => k_is); (case kp_u20 => k_is)))
    (case c_Pass => (refine' DP.cls_mk KX G ?g_u21 ?pg_u21 ?hd_u21 ?po_u21 ?sa_u21 ?mk_u21 ?kp_u21; (case g_u21 => k_is); (case pg_u21 => k_is); (case hd_u21 => k_is); (case po_u21 => k_is); (case sa_u21 => k_is); (case mk_u21 => k_is); (case kp_u21 => k_is)))
    (case c_World => (refine' DP.cls_mk KX G ?g_u22 ?pg_u22 ?hd_u22 ?po_u22 ?sa_u22 ?mk_u22 ?kp_u22; (case g_u22 => k_is); (case pg_u22 => k_is); (case hd_u22 => k_is); (case po_u22 => k_is); (case sa_u22 => k_is); (case mk_u22 => k_is); (case kp_u22 => k_is)))
    (case TF => (refine' DP.tf_mk KX G ?tf1 ?tf2 ?tf3 ?tf4 ?tf5 ?tf6 ?tf7 ?tf8 ?tf9 ?tf10 ?tf11 ?tf12 ?tf13 ?tf14 ?tf15 ?tf16 ?tf17 ?tf18 ?tf19 ?tf20 ?tf21 ?tf22 ?tf23 ?tf24 ?tf25 ?tf26; (case tf1 => k_is); (case tf2 => k_is); (case tf3 => k_is); (case tf4 => k_is); (case tf5 => k_is); (case tf6 => k_is); (case tf7 => rfl); (case tf8 => k_is); (case tf9 => k_is); (case tf10 => k_is); (case tf11 => k_is); (case tf12 => k_is); (case tf13 => ks_is); (case tf14 => k_is); (case tf15 => k_is); (case tf16 => k_is); (case tf17 => rfl); (case tf18 => k_is); (case tf19 => k_is); (case tf20 => k_is); (case tf21 => k_is); (case tf22 => k_is); (case tf23 => k_is); (case tf24 => k_is); (case tf25 => first | rfl | k_is); (case tf26 => k_is)))
    (case SP => exact ⟨by first | rfl | decide +kernel, by first | rfl | decide +kernel⟩)
    (case TP => (refine' ⟨DP.int_mk KX G ?tp2⟩; (case tp2 => k_is)))
    (case KF => (refine' DP.metF_mk ?kfa ?kfi ?kfl ?kft ?kfc ?kfk DP.hb2_known; (case kfa => k_is); (case kfi => k_is); (case kfl => k_is); (case kft => k_is); (case kfc => k_is); (case kfk => k_is)))
    (case r_satellite => (refine' PySem.W.mg_of KX G ?q_u38; (case q_u38 => k_is)))
    (case r_station => (refine' PySem.W.mg_of KX G ?q_u39; (case q_u39 => k_is)))
    (case r_recording => (refine' PySem.W.mg_of KX G ?q_u40; (case q_u40 => k_is)))
    (case r_pass => (refine' PySem.W.mg_of KX G ?q_u41; (case q_u41 => k_is)))
    (case g_SORTS => (refine' PySem.W.mg_of KX G ?q_u42; (case q_u42 => k_is)))
    (case t_SORTS => (refine' DP.tup4s_mk ?q_u43; (case q_u43 => k_is)))
    (case k_SORTS => (refine' DP.tupk_mk ?q_u44; (case q_u44 => k_is)))
    (case g_READERS => (refine' PySem.W.mg_of KX G ?q_u45; (case q_u45 => k_is)))
    (case t_READERS => (refine' DP.tup4r_mk ?q_u46; (case q_u46 => k_is)))
    (case n_Line_number => (show PySem.W.findIn _ _ _ = some none; k_is))
    (case n_Line_words => (show PySem.W.findIn _ _ _ = some none; k_is))
    (case n_Line_read => (show PySem.W.findIn _ _ _ = some none; k_is))
    (case n_Line_column => (show PySem.W.findIn _ _ _ = some none; k_is))
    (case n_Satellite_name => (show PySem.W.findIn _ _ _ = some none; k_is))
    (case n_Satellite_store => (show PySem.W.findIn _ _ _ = some none; k_is))
    (case n_Satellite_battery => (show PySem.W.findIn _ _ _ = some none; k_is))
    (case n_Satellite_start_level => (show PySem.W.findIn _ _ _ = some none; k_is))
    (case n_Satellite_reserve => (show PySem.W.findIn _ _ _ = some none; k_is))
    (case n_Satellite_charge => (show PySem.W.findIn _ _ _ = some none; k_is))
    (case n_Satellite_settle => (show PySem.W.findIn _ _ _ = some none; k_is))
    (case n_Satellite_light => (show PySem.W.findIn _ _ _ = some none; k_is))
    (case n_Station_name => (show PySem.W.findIn _ _ _ = some none; k_is))
    (case n_Station_antennas => (show PySem.W.findIn _ _ _ = some none; k_is))
    (case n_Station_turn => (show PySem.W.findIn _ _ _ = some none; k_is))
    (case n_Recording_name => (show PySem.W.findIn _ _ _ = some none; k_is))
    (case n_Recording_satellite => (show PySem.W.findIn _ _ _ = some none; k_is))
    (case n_Recording_earliest => (show PySem.W.findIn _ _ _ = some none; k_is))
    (case n_Recording_latest => (show PySem.W.findIn _ _ _ = some none; k_is))
    (case n_Recording_length => (show PySem.W.findIn _ _ _ = some none; k_is))
    (case n_Recording_size => (show PySem.W.findIn _ _ _ = some none; k_is))
    (case n_Recording_energy => (show PySem.W.findIn _ _ _ = some none; k_is))
    (case n_Recording_worth => (show PySem.W.findIn _ _ _ = some none; k_is))
    (case n_Recording_rank => (show PySem.W.findIn _ _ _ = some none; k_is))
    (case n_Recording_deadline => (show PySem.W.findIn _ _ _ = some none; k_is))
    (case n_Pass_name => (show PySem.W.findIn _ _ _ = some none; k_is))
    (case n_Pass_satellite => (show PySem.W.findIn _ _ _ = some none; k_is))
    (case n_Pass_station => (show PySem.W.findIn _ _ _ = some none; k_is))
    (case n_Pass_span => (show PySem.W.findIn _ _ _ = some none; k_is))
    (case n_Pass_room => (show PySem.W.findIn _ _ _ = some none; k_is))
    (case n_Pass_energy => (show PySem.W.findIn _ _ _ = some none; k_is))
    (case n_Pass_fee => (show PySem.W.findIn _ _ _ = some none; k_is))
    (case n_World_text => (show PySem.W.findIn _ _ _ = some none; k_is))
    (case n_World_horizon => (show PySem.W.findIn _ _ _ = some none; k_is))
    (case n_World_satellites => (show PySem.W.findIn _ _ _ = some none; k_is))
    (case n_World_stations => (show PySem.W.findIn _ _ _ = some none; k_is))
    (case n_World_recordings => (show PySem.W.findIn _ _ _ = some none; k_is))
    (case n_World_passes => (show PySem.W.findIn _ _ _ = some none; k_is))
    (case z_len => (refine' PySem.W.mg_none_of KX G ?q_u1; (case q_u1 => k_is)))
    (case z_range => (refine' PySem.W.mg_none_of KX G ?q_u2; (case q_u2 => k_is)))
    (case z_int => (refine' PySem.W.mg_none_of KX G ?q_u3; (case q_u3 => k_is)))
    (case z_abs => (refine' PySem.W.mg_none_of KX G ?q_u4; (case q_u4 => k_is)))
    (case z_isinstance => (refine' PySem.W.mg_none_of KX G ?q_u5; (case q_u5 => k_is)))
    (case z_bool => (refine' PySem.W.mg_none_of KX G ?q_u6; (case q_u6 => k_is)))
    (case z_str => (refine' PySem.W.mg_none_of KX G ?q_u7; (case q_u7 => k_is)))
    (case z_tuple => (refine' PySem.W.mg_none_of KX G ?q_u8; (case q_u8 => k_is)))
    (case z_list => (refine' PySem.W.mg_none_of KX G ?q_u9; (case q_u9 => k_is)))
    (case z_min => (refine' PySem.W.mg_none_of KX G ?q_u12; (case q_u12 => k_is)))
    (case z_all => (refine' PySem.W.mg_none_of KX G ?q_u13; (case q_u13 => k_is)))
    (case z_enumerate => (refine' PySem.W.mg_none_of KX G ?q_u14; (case q_u14 => k_is)))
    (case g_LETTERS => (refine' DP.str_mk KX G ?q_u23; (case q_u23 => k_is)))
    (case g_DIGITS => (refine' DP.str_mk KX G ?q_u24; (case q_u24 => k_is)))
    (case g_MOST_NAME => (refine' DP.int_mk KX G ?q_u25; (case q_u25 => k_is)))
    (case g_MOST_DIGITS => (refine' DP.int_mk KX G ?q_u26; (case q_u26 => k_is)))
    (case g_SATELLITES => (refine' DP.int_mk KX G ?q_u27; (case q_u27 => k_is)))
    (case g_STATIONS => (refine' DP.int_mk KX G ?q_u28; (case q_u28 => k_is)))
    (case g_RECORDINGS => (refine' DP.int_mk KX G ?q_u29; (case q_u29 => k_is)))
    (case g_PASSES => (refine' DP.int_mk KX G ?q_u30; (case q_u30 => k_is)))
    (case g_MOST_UNITS => (refine' DP.int_mk KX G ?q_u31; (case q_u31 => k_is)))
    (case g_MOST_CHARGE => (refine' DP.int_mk KX G ?q_u32; (case q_u32 => k_is)))
    (case g_MOST_DELAY => (refine' DP.int_mk KX G ?q_u33; (case q_u33 => k_is)))
    (case g_MOST_ANTENNAS => (refine' DP.int_mk KX G ?q_u34; (case q_u34 => k_is)))
    (case g_MOST_WORTH => (refine' DP.int_mk KX G ?q_u35; (case q_u35 => k_is)))
    (case g_MOST_RANK => (refine' DP.int_mk KX G ?q_u36; (case q_u36 => k_is)))
    (case g_MOST_FEE => (refine' DP.int_mk KX G ?q_u37; (case q_u37 => k_is)))
    (case rdW => (refine' ⟨?rd_u47, ?ga_u47⟩; (case rd_u47 => k_is); (case ga_u47 => k_is)))
    (case v_MOST_HORIZON => (refine' DP.cval_mk ?q_u48; (case q_u48 => k_is)))
    (case v_MOST_SATELLITES => (refine' DP.cval_mk ?q_u49; (case q_u49 => k_is)))
    (case v_MOST_STATIONS => (refine' DP.cval_mk ?q_u50; (case q_u50 => k_is)))
    (case v_MOST_RECORDINGS => (refine' DP.cval_mk ?q_u51; (case q_u51 => k_is)))
    (case v_MOST_PASSES => (refine' DP.cval_mk ?q_u52; (case q_u52 => k_is)))
    (case v_MOST_SHIFT => (refine' DP.cval_mk ?q_u53; (case q_u53 => k_is)))
    (case p_names_of => (refine' DP.at_mk KX G ?a_u54 ?l_u54 ?c_u54 ?k_u54 DP.hb_names_of; (case a_u54 => k_is); (case l_u54 => k_is); (case c_u54 => k_is); (case k_u54 => k_is)))
    (case p_read_light => (refine' DP.at_mk KX G ?a_u55 ?l_u55 ?c_u55 ?k_u55 DP.hb_read_light; (case a_u55 => k_is); (case l_u55 => k_is); (case c_u55 => k_is); (case k_u55 => k_is)))
    (case p_read_satellite => (refine' DP.at_mk KX G ?a_u56 ?l_u56 ?c_u56 ?k_u56 DP.hb_read_satellite; (case a_u56 => k_is); (case l_u56 => k_is); (case c_u56 => k_is); (case k_u56 => k_is)))
    (case p_read_station => (refine' DP.at_mk KX G ?a_u57 ?l_u57 ?c_u57 ?k_u57 DP.hb_read_station; (case a_u57 => k_is); (case l_u57 => k_is); (case c_u57 => k_is); (case k_u57 => k_is)))
    (case p_read_recording => (refine' DP.at_mk KX G ?a_u58 ?l_u58 ?c_u58 ?k_u58 DP.hb_read_recording; (case a_u58 => k_is); (case l_u58 => k_is); (case c_u58 => k_is); (case k_u58 => k_is)))
    (case p_read_pass => (refine' DP.at_mk KX G ?a_u59 ?l_u59 ?c_u59 ?k_u59 DP.hb_read_pass; (case a_u59 => k_is); (case l_u59 => k_is); (case c_u59 => k_is); (case k_u59 => k_is)))
    (case p_most_things => (refine' DP.at_mk KX G ?a_u60 ?l_u60 ?c_u60 ?k_u60 DP.hb_most_things; (case a_u60 => k_is); (case l_u60 => k_is); (case c_u60 => k_is); (case k_u60 => k_is)))
    (case p_read_sort => (refine' DP.at_mk KX G ?a_u61 ?l_u61 ?c_u61 ?k_u61 DP.hb_read_sort; (case a_u61 => k_is); (case l_u61 => k_is); (case c_u61 => k_is); (case k_u61 => k_is)))
    (case p_read_things => (refine' DP.at_mk KX G ?a_u62 ?l_u62 ?c_u62 ?k_u62 DP.hb_read_things; (case a_u62 => k_is); (case l_u62 => k_is); (case c_u62 => k_is); (case k_u62 => k_is)))
    (case p_lines_of => (refine' DP.at_mk KX G ?a_u63 ?l_u63 ?c_u63 ?k_u63 DP.hb_lines_of; (case a_u63 => k_is); (case l_u63 => k_is); (case c_u63 => k_is); (case k_u63 => k_is)))
    (case p_is_name => (refine' DP.at_mk KX G ?a_u64 ?l_u64 ?c_u64 ?k_u64 DP.hb_is_name; (case a_u64 => k_is); (case l_u64 => k_is); (case c_u64 => k_is); (case k_u64 => k_is)))
    (case p_is_number => (refine' DP.at_mk KX G ?a_u65 ?l_u65 ?c_u65 ?k_u65 DP.hb_is_number; (case a_u65 => k_is); (case l_u65 => k_is); (case c_u65 => k_is); (case k_u65 => k_is)))
    (case p_Line___init__ => (refine' DP.met_mk ?a_u66 ?i_u66 ?l_u66 ?c_u66 ?k_u66 DP.hb_Line___init__; (case a_u66 => k_is); (case i_u66 => k_is); (case l_u66 => k_is); (case c_u66 => k_is); (case k_u66 => k_is)))
    (case p_Line_has_more => (refine' DP.met_mk ?a_u67 ?i_u67 ?l_u67 ?c_u67 ?k_u67 DP.hb_Line_has_more; (case a_u67 => k_is); (case i_u67 => k_is); (case l_u67 => k_is); (case c_u67 => k_is); (case k_u67 => k_is)))
    (case p_Line_due => (refine' DP.met_mk ?a_u68 ?i_u68 ?l_u68 ?c_u68 ?k_u68 DP.hb_Line_due; (case a_u68 => k_is); (case i_u68 => k_is); (case l_u68 => k_is); (case c_u68 => k_is); (case k_u68 => k_is)))
    (case p_Line_step => (refine' DP.met_mk ?a_u69 ?i_u69 ?l_u69 ?c_u69 ?k_u69 DP.hb_Line_step; (case a_u69 => k_is); (case i_u69 => k_is); (case l_u69 => k_is); (case c_u69 => k_is); (case k_u69 => k_is)))
    (case p_Line_read_choice => (refine' DP.met_mk ?a_u70 ?i_u70 ?l_u70 ?c_u70 ?k_u70 DP.hb_Line_read_choice; (case a_u70 => k_is); (case i_u70 => k_is); (case l_u70 => k_is); (case c_u70 => k_is); (case k_u70 => k_is)))
    (case p_Line_read_number => (refine' DP.met_mk ?a_u71 ?i_u71 ?l_u71 ?c_u71 ?k_u71 DP.hb_Line_read_number; (case a_u71 => k_is); (case i_u71 => k_is); (case l_u71 => k_is); (case c_u71 => k_is); (case k_u71 => k_is)))
    (case p_Line_read_field => (refine' DP.met_mk ?a_u72 ?i_u72 ?l_u72 ?c_u72 ?k_u72 DP.hb_Line_read_field; (case a_u72 => k_is); (case i_u72 => k_is); (case l_u72 => k_is); (case c_u72 => k_is); (case k_u72 => k_is)))
    (case p_Line_due_name => (refine' DP.met_mk ?a_u73 ?i_u73 ?l_u73 ?c_u73 ?k_u73 DP.hb_Line_due_name; (case a_u73 => k_is); (case i_u73 => k_is); (case l_u73 => k_is); (case c_u73 => k_is); (case k_u73 => k_is)))
    (case p_Line_read_new_name => (refine' DP.met_mk ?a_u74 ?i_u74 ?l_u74 ?c_u74 ?k_u74 DP.hb_Line_read_new_name; (case a_u74 => k_is); (case i_u74 => k_is); (case l_u74 => k_is); (case c_u74 => k_is); (case k_u74 => k_is)))
    (case p_Line_read_known_name => (refine' DP.metD_mk ?a_u75 ?i_u75 ?l_u75 ?lT_u75 ?c_u75 ?k_u75 2 rfl DP.hb_Line_read_known_name; (case a_u75 => k_is); (case i_u75 => k_is); (case l_u75 => k_is); (case lT_u75 => k_is); (case c_u75 => k_is); (case k_u75 => k_is)))
    (case p_Line_finish => (refine' DP.met_mk ?a_u76 ?i_u76 ?l_u76 ?c_u76 ?k_u76 DP.hb_Line_finish; (case a_u76 => k_is); (case i_u76 => k_is); (case l_u76 => k_is); (case c_u76 => k_is); (case k_u76 => k_is)))
    (case p_Satellite___init__ => (refine' DP.met_mk ?a_u77 ?i_u77 ?l_u77 ?c_u77 ?k_u77 DP.hb_Satellite___init__; (case a_u77 => k_is); (case i_u77 => k_is); (case l_u77 => k_is); (case c_u77 => k_is); (case k_u77 => k_is)))
    (case p_Station___init__ => (refine' DP.met_mk ?a_u78 ?i_u78 ?l_u78 ?c_u78 ?k_u78 DP.hb_Station___init__; (case a_u78 => k_is); (case i_u78 => k_is); (case l_u78 => k_is); (case c_u78 => k_is); (case k_u78 => k_is)))
    (case p_Recording___init__ => (refine' DP.met_mk ?a_u79 ?i_u79 ?l_u79 ?c_u79 ?k_u79 DP.hb_Recording___init__; (case a_u79 => k_is); (case i_u79 => k_is); (case l_u79 => k_is); (case c_u79 => k_is); (case k_u79 => k_is)))
    (case p_Pass___init__ => (refine' DP.met_mk ?a_u80 ?i_u80 ?l_u80 ?c_u80 ?k_u80 DP.hb_Pass___init__; (case a_u80 => k_is); (case i_u80 => k_is); (case l_u80 => k_is); (case c_u80 => k_is); (case k_u80 => k_is)))
    (case p_World___init__ => (refine' DP.met_mk ?a_u81 ?i_u81 ?l_u81 ?c_u81 ?k_u81 DP.hb_World___init__; (case a_u81 => k_is); (case i_u81 => k_is); (case l_u81 => k_is); (case c_u81 => k_is); (case k_u81 => k_is)))
    (case p_World_parse => (refine' DP.smet_mk ?a_u82 ?r_u82 ?l_u82 ?c_u82 ?k_u82 DP.hb_World_parse; (case a_u82 => k_is); (case r_u82 => k_is); (case l_u82 => k_is); (case c_u82 => k_is); (case k_u82 => k_is)))
    (case a__law_cell => (refine' DP.at_mk KX G ?a_u83 ?l_u83 ?c_u83 ?k_u83 DP.hb__law_cell; (case a_u83 => k_is); (case l_u83 => k_is); (case c_u83 => k_is); (case k_u83 => k_is)))
    (case a__law_draws => (refine' DP.at_mk KX G ?a_u84 ?l_u84 ?c_u84 ?k_u84 DP.hb__law_draws; (case a_u84 => k_is); (case l_u84 => k_is); (case c_u84 => k_is); (case k_u84 => k_is)))
    (case a__law_stream => (refine' DP.at_mk KX G ?a_u85 ?l_u85 ?c_u85 ?k_u85 DP.hb__law_stream; (case a_u85 => k_is); (case l_u85 => k_is); (case c_u85 => k_is); (case k_u85 => k_is)))
    (case a__law_next => (refine' DP.at_mk KX G ?a_u86 ?l_u86 ?c_u86 ?k_u86 DP.hb__law_next; (case a_u86 => k_is); (case l_u86 => k_is); (case c_u86 => k_is); (case k_u86 => k_is)))
    (case a__law_word => (refine' DP.at_mk KX G ?a_u87 ?l_u87 ?c_u87 ?k_u87 DP.hb__law_word; (case a_u87 => k_is); (case l_u87 => k_is); (case c_u87 => k_is); (case k_u87 => k_is)))
    (case a__law_is_integer => (refine' DP.at_mk KX G ?a_u88 ?l_u88 ?c_u88 ?k_u88 DP.hb__law_is_integer; (case a_u88 => k_is); (case l_u88 => k_is); (case c_u88 => k_is); (case k_u88 => k_is)))
    (case a__law_same => (refine' DP.at_mk KX G ?a_u89 ?l_u89 ?c_u89 ?k_u89 DP.hb__law_same; (case a_u89 => k_is); (case l_u89 => k_is); (case c_u89 => k_is); (case k_u89 => k_is)))
    (case a__law_cases => (refine' DP.at_mk KX G ?a_u90 ?l_u90 ?c_u90 ?k_u90 DP.hb__law_cases; (case a_u90 => k_is); (case l_u90 => k_is); (case c_u90 => k_is); (case k_u90 => k_is)))
    (case a_Line_refuse => (refine' DP.met_mk ?a_u91 ?i_u91 ?l_u91 ?c_u91 ?k_u91 DP.hb_Line_refuse; (case a_u91 => k_is); (case i_u91 => k_is); (case l_u91 => k_is); (case c_u91 => k_is); (case k_u91 => k_is)))
    (case a_empty_plan => (refine' DP.at_mk KX G ?a_u92 ?l_u92 ?c_u92 ?k_u92 DP.hb_empty_plan; (case a_u92 => k_is); (case l_u92 => k_is); (case c_u92 => k_is); (case k_u92 => k_is)))
    (case a_with_entry => (refine' DP.at_mk KX G ?a_u93 ?l_u93 ?c_u93 ?k_u93 DP.hb_with_entry; (case a_u93 => k_is); (case l_u93 => k_is); (case c_u93 => k_is); (case k_u93 => k_is)))
    (case a_read_make => (refine' DP.at_mk KX G ?a_u94 ?l_u94 ?c_u94 ?k_u94 DP.hb_read_make; (case a_u94 => k_is); (case l_u94 => k_is); (case c_u94 => k_is); (case k_u94 => k_is)))
    (case a_read_take => (refine' DP.at_mk KX G ?a_u95 ?l_u95 ?c_u95 ?k_u95 DP.hb_read_take; (case a_u95 => k_is); (case l_u95 => k_is); (case c_u95 => k_is); (case k_u95 => k_is)))
    (case a_parse_plan => (refine' DP.at_mk KX G ?a_u96 ?l_u96 ?c_u96 ?k_u96 DP.hb_parse_plan; (case a_u96 => k_is); (case l_u96 => k_is); (case c_u96 => k_is); (case k_u96 => k_is)))
    (case a_law => (refine' DP.at_mk KX G ?a_u97 ?l_u97 ?c_u97 ?k_u97 DP.hb_law; (case a_u97 => k_is); (case l_u97 => k_is); (case c_u97 => k_is); (case k_u97 => k_is)))
