import PyProof.Rows.All
import Wide.All
import OpenK.AllK
import Wide.FinOn
import PyProof.ListMulRoad
import HandS.ForMost
import HandS.IsInst
import HandS.TupAny
import HandS.TupMul
import HandS.Star
import HandS.Wide
import HandS.Style
import HandS.TryOnly
import HandS.NoneIn
import HandS.Gcd
import KE.DatumOrd
import HandS.GenBody
import HandS.GenYield
import HandS.GenList
import HandS.FStr
import HandS.Property
import HandS.OwnEq
import KE.KCallOwn
import KE.KOwnIter
import OpenK.KOps
import HandS.Conv
import HandS.Zip
import HandS.Walk
import HandS.OwnIter
import HandS.IterNext
import HandS.Strs
import HandS.SetBool
import HandS.DictComp
import HandS.SetKeys
import PySem.Challenge.RW_noroadback_k23_whole_webs_and_their_road
set_option Elab.async false
set_option linter.all false
set_option maxRecDepth 100000
set_option maxHeartbeats 4000000
/-! Words in which an entry and its opposite strike each other out: what is left, and what goes along with it. -/
namespace Fr
/-- the entry e laid on a pile (its top first) -/
def push (e : Int) : List Int → List Int
  | [] => [e]
  | x :: t => if x = -e then t else e :: x :: t
def act (w s : List Int) : List Int := w.foldl (fun s e => push e s) s
def red (w : List Int) : List Int := (act w []).reverse
def Nf : List Int → Prop
  | [] => True
  | [_] => True
  | x :: y :: t => x ≠ -y ∧ Nf (y :: t)
def opp (w : List Int) : List Int := (w.map fun e => -e).reverse
def rep (w : List Int) : Nat → List Int
  | 0 => []
  | n + 1 => rep w n ++ w

theorem push_eq {e x : Int} {t : List Int} (h : x = -e) : push e (x :: t) = t := by
  show (if x = -e then t else e :: x :: t) = t
  rw [if_pos h]
theorem push_on {e x : Int} {t : List Int} (h : ¬ x = -e) : push e (x :: t) = e :: x :: t := by
  show (if x = -e then t else e :: x :: t) = e :: x :: t
  rw [if_neg h]
theorem Nf.tail {x : Int} {t : List Int} (h : Nf (x :: t)) : Nf t := by
  cases t with
  | nil => exact True.intro
  | cons y t => exact h.2
theorem push_nf {e : Int} {s : List Int} (h : Nf s) : Nf (push e s) := by
  cases s with
  | nil => exact True.intro
  | cons x t =>
    by_cases hx : x = -e
    · rw [push_eq hx]; exact h.tail
    · rw [push_on hx]; exact ⟨fun q => hx (by omega), h⟩
theorem push_back {e : Int} {s : List Int} (h : Nf s) : push (-e) (push e s) = s := by
  cases s with
  | nil => exact push_eq (t := []) (by omega)
  | cons x t =>
    by_cases hx : x = -e
    · have h1 : push e (x :: t) = t := push_eq hx
      rw [h1]
      cases t with
      | nil => show [-e] = [x]; rw [hx]
      | cons y t =>
        have hn : ¬ y = - -e := fun q => h.1 (by omega)
        show (if y = - -e then t else -e :: y :: t) = x :: y :: t
        rw [if_neg hn, hx]
    · have h1 : push e (x :: t) = e :: x :: t := push_on hx
      rw [h1]
      show (if e = - -e then x :: t else _) = x :: t
      rw [if_pos (by omega)]
theorem push_fwd {e : Int} {s : List Int} (h : Nf s) : push e (push (-e) s) = s := by
  have := push_back (e := -e) h
  rwa [Int.neg_neg] at this
theorem act_nil (s : List Int) : act [] s = s := rfl
theorem act_cons (e : Int) (w s : List Int) : act (e :: w) s = act w (push e s) := rfl
theorem act_app (a b s : List Int) : act (a ++ b) s = act b (act a s) := List.foldl_append
theorem act_nf : ∀ (w : List Int) {s : List Int}, Nf s → Nf (act w s)
  | [], _, h => h
  | e :: w, _, h => act_nf w (push_nf h)
theorem opp_nil : opp [] = [] := rfl
theorem opp_cons (e : Int) (w : List Int) : opp (e :: w) = opp w ++ [-e] := by unfold opp; rw [List.map_cons, List.reverse_cons]
theorem opp_app (a b : List Int) : opp (a ++ b) = opp b ++ opp a := by unfold opp; rw [List.map_append, List.reverse_append]
theorem opp_opp (w : List Int) : opp (opp w) = w := by
  induction w with
  | nil => rfl
  | cons e w ih => rw [opp_cons, opp_app, ih]; show [- -e] ++ w = e :: w; rw [Int.neg_neg]; rfl
theorem opp_len (w : List Int) : (opp w).length = w.length := by unfold opp; rw [List.length_reverse, List.length_map]
theorem act_opp : ∀ (w : List Int) {s : List Int}, Nf s → act (opp w) (act w s) = s
  | [], _, _ => rfl
  | e :: w, s, h => by
    rw [opp_cons, act_app]
    show push (-e) (act (opp w) (act w (push e s))) = s
    rw [act_opp w (push_nf h)]
    exact push_back h
theorem opp_act (w : List Int) {s : List Int} (h : Nf s) : act w (act (opp w) s) = s := by
  have := act_opp (opp w) h
  rwa [opp_opp] at this
theorem snoc_ind {P : List Int → Prop} (h0 : P []) (h1 : ∀ w e, P w → P (w ++ [e])) (w : List Int) : P w := by
  have h : ∀ v : List Int, P v.reverse := fun v => by
    induction v with
    | nil => exact h0
    | cons e v ih => rw [List.reverse_cons]; exact h1 _ _ ih
  have := h w.reverse
  rwa [List.reverse_reverse] at this
theorem red_snoc (w : List Int) (e : Int) : red (w ++ [e]) = (push e (act w [])).reverse := by unfold red; rw [act_app]; rfl
/-- what is left acts as the whole -/
theorem act_red (w : List Int) : ∀ {s : List Int}, Nf s → act (red w) s = act w s := by
  refine snoc_ind (P := fun w => ∀ {s : List Int}, Nf s → act (red w) s = act w s) (fun _ => rfl) (fun w e ih => ?_) w
  intro s h
  rw [red_snoc, act_app]
  show act (push e (act w [])).reverse s = push e (act w s)
  rw [← ih h]
  unfold red
  cases q : act w [] with
  | nil => rfl
  | cons x t =>
    by_cases hx : x = -e
    · have h1 : push e (x :: t) = t := push_eq hx
      rw [h1, List.reverse_cons, act_app, hx]
      show act t.reverse s = push e (push (-e) (act t.reverse s))
      rw [push_fwd (act_nf _ h)]
    · have h1 : push e (x :: t) = e :: x :: t := push_on hx
      rw [h1, List.reverse_cons, act_app]
      rfl
theorem Nf.of_act (w : List Int) : Nf (act w []) := act_nf w (s := []) True.intro
/-- a bare row with a bare end: the two ends as they meet -/
theorem nf_snoc2 : ∀ {w : List Int} {x y : Int}, Nf (w ++ [x]) → x ≠ -y → Nf (w ++ [x, y])
  | [], _, _, _, h => ⟨h, True.intro⟩
  | [a], _, _, h1, h => ⟨h1.1, h, True.intro⟩
  | a :: b :: w, _, _, h1, h => ⟨h1.1, nf_snoc2 (w := b :: w) h1.2 h⟩
theorem nf_rev {w : List Int} (h : Nf w) : Nf w.reverse := by
  induction w with
  | nil => exact True.intro
  | cons x w ih =>
    cases w with
    | nil => exact True.intro
    | cons y w =>
      rw [List.reverse_cons, List.reverse_cons, List.append_assoc]
      have h2 := ih h.2
      rw [List.reverse_cons] at h2
      exact nf_snoc2 h2 fun q => h.1 (by omega)
theorem red_nf (w : List Int) : Nf (red w) := nf_rev (Nf.of_act w)
theorem nf_front : ∀ {a b : List Int}, Nf (a ++ b) → Nf a
  | [], _, _ => True.intro
  | [_], _, _ => True.intro
  | _ :: y :: a, _, h => ⟨h.1, nf_front (a := y :: a) h.2⟩
theorem nf_back : ∀ {a b : List Int}, Nf (a ++ b) → Nf b
  | [], _, h => h
  | _ :: _, _, h => nf_back h.tail
theorem act_bare (w : List Int) : Nf w → act w [] = w.reverse := by
  refine snoc_ind (P := fun w => Nf w → act w [] = w.reverse) (fun _ => rfl) (fun w e ih h => ?_) w
  rw [act_app, ih (nf_front h), List.reverse_append]
  show push e w.reverse = [e].reverse ++ w.reverse
  cases q : w.reverse with
  | nil => rfl
  | cons x t =>
    have hw : w = t.reverse ++ [x] := by
      have := congrArg List.reverse q
      rwa [List.reverse_reverse, List.reverse_cons] at this
    rw [hw, List.append_assoc] at h
    have h2 : Nf [x, e] := nf_back h
    show (if x = -e then t else e :: x :: t) = e :: x :: t
    rw [if_neg h2.1]
theorem red_id {w : List Int} (h : Nf w) : red w = w := by unfold red; rw [act_bare w h, List.reverse_reverse]
theorem red_congr {a b : List Int} (h : act a [] = act b []) : red a = red b := by unfold red; rw [h]
theorem red_app_l (a b : List Int) : red (red a ++ b) = red (a ++ b) := red_congr (by rw [act_app, act_app, act_red a (s := []) True.intro])
theorem red_app_r (a b : List Int) : red (a ++ red b) = red (a ++ b) := red_congr (by rw [act_app, act_app, act_red b (Nf.of_act a)])
theorem red_red (a : List Int) : red (red a) = red a := red_id (red_nf a)
theorem red_opp_self (w : List Int) : red (w ++ opp w) = [] := by
  unfold red
  rw [act_app, act_opp w (s := []) True.intro]
  rfl
theorem red_opp (x : List Int) : red (opp x) = red (opp (red x)) := by
  refine red_congr ?_
  have n : Nf (act (opp (red x)) []) := act_nf _ (s := []) True.intro
  have h1 : act x (act (opp (red x)) []) = [] := by
    rw [← act_red x n]
    exact opp_act (red x) (s := []) True.intro
  have h2 := act_opp x n
  rw [h1] at h2
  exact h2
theorem nf_map_neg : ∀ {w : List Int}, Nf w → Nf (w.map fun e => -e)
  | [], _ => True.intro
  | [_], _ => True.intro
  | x :: y :: w, h => ⟨fun q => h.1 (by have q2 : -x = - -y := q; omega), nf_map_neg (w := y :: w) h.2⟩
theorem nf_opp {w : List Int} (h : Nf w) : Nf (opp w) := nf_rev (nf_map_neg h)
theorem opp_red (x : List Int) : opp (red x) = red (opp x) := by rw [red_opp, red_id (nf_opp (red_nf x))]
/-- a struck pair -/
theorem red_strike (a b : List Int) (x y : Int) (h : x = -y) : red (a ++ x :: y :: b) = red (a ++ b) := red_congr (by
  rw [act_app, act_app, act_cons, act_cons]
  have e : y = -x := by omega
  rw [e, push_back (Nf.of_act a)])

/-! powers -/
theorem rep_len (w : List Int) : ∀ n, (rep w n).length = n * w.length
  | 0 => by simp [rep]
  | n + 1 => by
    show (rep w n ++ w).length = _
    rw [List.length_append, rep_len w n, Nat.succ_mul]
theorem rep_nil : ∀ n, rep [] n = []
  | 0 => rfl
  | n + 1 => by show rep [] n ++ [] = []; rw [rep_nil n]; rfl
theorem rep_front (w : List Int) : ∀ n, rep w (n + 1) = w ++ rep w n
  | 0 => by show [] ++ w = w ++ []; simp
  | n + 1 => by
    show rep w (n + 1) ++ w = w ++ (rep w n ++ w)
    rw [rep_front w n, List.append_assoc]
theorem opp_rep (w : List Int) : ∀ n, opp (rep w n) = rep (opp w) n
  | 0 => rfl
  | n + 1 => by
    show opp (rep w n ++ w) = rep (opp w) (n + 1)
    rw [opp_app, opp_rep w n, rep_front]
theorem flat_rep (w : List Int) : ∀ n, (List.replicate n w).flatten = rep w n
  | 0 => rfl
  | n + 1 => by
    rw [List.replicate_succ, List.flatten_cons, flat_rep w n, rep_front]
/-- the power of a word for a number of any sign, not yet bare -/
def pw (w : List Int) (m : Int) : List Int := if m < 0 then rep (opp w) (-m).toNat else rep w m.toNat
theorem pw_succ (w : List Int) (m : Int) {s : List Int} (h : Nf s) : act (pw w (m + 1)) s = act w (act (pw w m) s) := by
  unfold pw
  by_cases h0 : m < 0
  · rw [if_pos h0]
    obtain ⟨k, hk⟩ : ∃ k : Nat, (-m).toNat = k + 1 := ⟨(-m).toNat - 1, by omega⟩
    rw [hk]
    show _ = act w (act (rep (opp w) k ++ opp w) s)
    rw [act_app, opp_act w (act_nf _ h)]
    by_cases h1 : m + 1 < 0
    · rw [if_pos h1]
      have : (-(m + 1)).toNat = k := by omega
      rw [this]
    · rw [if_neg h1]
      have e1 : (m + 1).toNat = 0 := by omega
      have e2 : k = 0 := by omega
      rw [e1, e2]
      rfl
  · rw [if_neg h0, if_neg (by omega : ¬ m + 1 < 0)]
    have : (m + 1).toNat = m.toNat + 1 := by omega
    rw [this]
    show act (rep w m.toNat ++ w) s = _
    rw [act_app]
theorem pw_add (w : List Int) (m : Int) : ∀ (n : Nat) {s : List Int}, Nf s → act (pw w (m + n)) s = act (rep w n) (act (pw w m) s)
  | 0, s, h => by
    have : m + ((0 : Nat) : Int) = m := by omega
    rw [this]
    rfl
  | n + 1, s, h => by
    have : m + ((n + 1 : Nat) : Int) = (m + n) + 1 := by omega
    rw [this, pw_succ w (m + n) h, pw_add w m n h]
    show _ = act (rep w n ++ w) _
    rw [act_app]
theorem red_pw_add (w : List Int) (m : Int) (n : Nat) : red (pw w (m + n)) = red (red (pw w m) ++ red (pw w (n : Int))) := by
  rw [red_app_l, red_app_r]
  refine red_congr ?_
  rw [pw_add w m n (s := []) True.intro, act_app]
  unfold pw
  rw [if_neg (by omega : ¬ (n : Int) < 0), Int.toNat_natCast]
theorem nf_join : ∀ {a b : List Int}, Nf a → Nf b → (∀ x y, a.getLast? = some x → b.head? = some y → x ≠ -y) → Nf (a ++ b)
  | [], _, _, hb, _ => hb
  | [x], [], _, _, _ => True.intro
  | [x], y :: b, _, hb, h => ⟨h x y rfl rfl, hb⟩
  | x :: z :: a, b, ha, hb, h => ⟨ha.1, nf_join (a := z :: a) ha.2 hb fun u v hu hv => h u v (by rw [List.getLast?_cons_cons]; exact hu) hv⟩
theorem last_rep {w : List Int} {x : Int} (h : w.getLast? = some x) (n : Nat) : (rep w (n + 1)).getLast? = some x := by
  show (rep w n ++ w).getLast? = some x
  rw [List.getLast?_append, h]
  rfl
theorem head_rep {w : List Int} {x : Int} (h : w.head? = some x) (n : Nat) : (rep w (n + 1)).head? = some x := by
  rw [rep_front, List.head?_append, h]
  rfl
theorem nf_rep {w : List Int} (h : Nf w) (hj : ∀ x y, w.getLast? = some x → w.head? = some y → x ≠ -y) : ∀ n, Nf (rep w n)
  | 0 => True.intro
  | n + 1 => by
    show Nf (rep w n ++ w)
    refine nf_join (nf_rep h hj n) h fun x y hx hy => ?_
    cases n with
    | zero => cases hx
    | succ n =>
      cases q : w.getLast? with
      | none =>
        have : w = [] := List.getLast?_eq_none_iff.mp q
        rw [this] at hy
        cases hy
      | some z =>
        rw [last_rep q n] at hx
        cases hx
        exact hj x y q hy
/-- a bare word in its two parts: its power as the program writes it -/
theorem red_pow {c m : List Int} (h : Nf (c ++ m ++ opp c)) (hm : m ≠ []) (hj : ∀ x y, m.getLast? = some x → m.head? = some y → x ≠ -y) (n : Nat) :
    red (rep (c ++ m ++ opp c) (n + 1)) = c ++ rep m (n + 1) ++ opp c := by
  have a1 : ∀ (n : Nat) {s : List Int}, Nf s → act (rep (c ++ m ++ opp c) n) s = act (c ++ rep m n ++ opp c) s := fun n => by
    induction n with
    | zero =>
      intro s hs
      show s = act (c ++ [] ++ opp c) s
      rw [List.append_nil, act_app, act_opp c hs]
    | succ n ih =>
      intro s hs
      show act (rep (c ++ m ++ opp c) n ++ (c ++ m ++ opp c)) s = act (c ++ (rep m n ++ m) ++ opp c) s
      rw [act_app, ih hs]
      simp only [act_app]
      rw [opp_act c (act_nf _ (act_nf _ hs))]
  have e : red (rep (c ++ m ++ opp c) (n + 1)) = red (c ++ rep m (n + 1) ++ opp c) := red_congr (a1 (n + 1) (s := []) True.intro)
  rw [e]
  refine red_id ?_
  have hcm : Nf (c ++ m) := nf_front h
  have hm1 : Nf m := nf_back hcm
  obtain ⟨z, hz⟩ : ∃ z, m.getLast? = some z := by
    cases q : m.getLast? with
    | none => exact absurd (List.getLast?_eq_none_iff.mp q) hm
    | some z => exact ⟨z, rfl⟩
  obtain ⟨u, hu⟩ : ∃ u, m.head? = some u := by
    cases m with
    | nil => exact absurd rfl hm
    | cons a b => exact ⟨a, rfl⟩
  have jn : ∀ {a b : List Int} {x y : Int}, Nf (a ++ b) → a.getLast? = some x → b.head? = some y → x ≠ -y := fun {a b x y} hab hx hy => by
    obtain ⟨a', ha⟩ : ∃ a', a = a' ++ [x] := by
      have hne : a ≠ [] := fun q => by rw [q] at hx; cases hx
      refine ⟨a.dropLast, ?_⟩
      rw [List.getLast?_eq_some_getLast hne] at hx
      have := List.dropLast_concat_getLast hne
      rw [Option.some.inj hx] at this
      exact this.symm
    obtain ⟨b', hb⟩ : ∃ b', b = y :: b' := by
      cases b with
      | nil => cases hy
      | cons p q => cases hy; exact ⟨q, rfl⟩
    rw [ha, hb, List.append_assoc] at hab
    have h2 : Nf ([x] ++ y :: b') := nf_back hab
    exact h2.1
  refine nf_join (nf_join (nf_front hcm) (nf_rep hm1 hj (n + 1)) fun x y hx hy => ?_) (nf_back h) fun x y hx hy => ?_
  · rw [head_rep hu n] at hy
    cases hy
    exact jn hcm hx hu
  · rw [List.getLast?_append, last_rep hz n] at hx
    cases hx
    exact jn h (by rw [List.getLast?_append, hz]; rfl) hy
end Fr

/-! rules of my own: a call by a positional promise, great powers, a tuple times a number, a tuple turned round -/
namespace N0
open PySem PySem.Spec PyProof.Rows L2 HT

structure Cl (P : Program) (w : World) (K : PySem.W.Frag) (mg : Str → Option Value) (base : Heap) (k : Nat) (x : Str) (sp : Sp) : Prop where
  ex : ∃ f : Addr, FnR P w K mg base CX0 k f sp ∧ mg x = some (.ref f) ∧ PySem.W.keepIn K (.ref f) = true
abbrev tFn (sp : Sp) (t : TA) : TE := fun σ H Q => t σ H fun vs H1 => sp vs H1 Q E0
section
variable {X : Cx} {x : Str} {k j : Nat} {sp : Sp} {e : Expr} {es : List Expr} {t : TA} {p pos : Pos}
theorem pe_f (c : Cl X.prog X.w X.K X.mg X.base k x sp) (hr : Room j X.A) (hk : k ≤ j) (hg : Gl X x) (ha : PA X (e :: es) t) (hdb : (x == ("__debug__" : Str)) = false := by decide)
    (he : starEach (e :: es) X.env = (false, eval e X.env) :: starEach es X.env := by rfl) (hpl : (backTo pos (starEach es X.env)).any (·.1) = false := by rfl) : PE X (.Call (.Name x p) (e :: es) [] pos) (tFn sp t) := by
  obtain ⟨f, F, hm, kp⟩ := c.ex
  refine ⟨fun pins s σ H Q I h => ?_⟩
  refine wpAny_Call_Name_kw (ld_glob I hg hm ?_ hdb)
  refine PySem.W.callWith_K (h₀ := X.base) I.ok.mod.kin kp (thn (ha.run pos pins s σ H _ I h) fun us s1 ⟨vs, H1, I1, r, q⟩ => ⟨I1.kIn, ?_⟩) he hpl
  exact wpAny_call (run_fnR F (hr.mono hk) pass0 I1 r q)
end
section
variable {P : Program} {w : World} {K : PySem.W.Frag} {mg : Str → Option Value} {base : Heap} {k : Nat} {x : Str} {sp sp' : Sp} {f : Addr} {fd : FuncData} {ps : List Str}
theorem cl_of (G : FnOk P w K mg base CX0 k f fd ps sp) (hm : mg x = some (.ref f)) (kp : PySem.W.keepIn K (.ref f) = true) (hb : Binds K fd ps []) : Cl P w K mg base k x sp :=
  ⟨f, (G.raw hb .nil).imp fun vs H Q E h => by rw [List.append_nil]; exact h, hm, kp⟩
theorem Cl.imp (c : Cl P w K mg base k x sp) (h : ∀ vs H Q E, sp' vs H Q E → sp vs H Q E) : Cl P w K mg base k x sp' := by
  obtain ⟨f, F, hm, kp⟩ := c.ex
  exact ⟨f, F.imp h, hm, kp⟩
end
def CPowG (i j : Int) : Prop := 0 ≤ j ∧ (Builtin.Int.intBits i : Int) * j ≤ 2 ^ 27
section
variable {X : Cx}
theorem op_powG : OpR X (binaryOp .Pow) (rI CPowG fun i j => .int (i ^ j.toNat)) := opI fun _ _ _ _ _ _ _ hc q => PyProof.Rows.pow_int hc.1 hc.2 q

/-! a tuple turned round -/
theorem pick_back (xs : Array Value) : ((List.range xs.size).filterMap fun (m : Nat) => xs[(((xs.size : Int) - 1) + (m : Int) * (-1)).toNat]?).toArray = xs.toList.reverse.toArray := by
  congr 1
  have h : ∀ m ∈ List.range xs.size, xs[(((xs.size : Int) - 1) + (m : Int) * (-1)).toNat]? = some (xs.toList.reverse.getD m .none) := fun m hm => by
    have hm := List.mem_range.mp hm
    have e : (((xs.size : Int) - 1) + (m : Int) * (-1)).toNat = xs.size - 1 - m := by omega
    rw [e, List.getD_eq_getElem?_getD, List.getElem?_reverse (by rw [Array.length_toList]; exact hm), Array.length_toList, Array.getElem?_toList, Array.getElem?_eq_getElem (by omega)]
    rfl
  have h2 : ∀ l : List Nat, (∀ m ∈ l, xs[(((xs.size : Int) - 1) + (m : Int) * (-1)).toNat]? = some (xs.toList.reverse.getD m .none)) → l.filterMap (fun (m : Nat) => xs[(((xs.size : Int) - 1) + (m : Int) * (-1)).toNat]?) = l.map fun m => xs.toList.reverse.getD m .none := fun l => by
    induction l with
    | nil => intro _; rfl
    | cons a l ih => intro hl; rw [List.filterMap_cons, hl a List.mem_cons_self, List.map_cons, ih fun m hm => hl m (List.mem_cons_of_mem _ hm)]
  rw [h2 _ h]
  refine List.ext_getElem? fun i => ?_
  rw [List.getElem?_map]
  by_cases hi : i < xs.size
  · rw [List.getElem?_range hi]
    show some (xs.toList.reverse.getD i .none) = _
    rw [List.getD_eq_getElem?_getD, List.getElem?_eq_getElem (by rw [List.length_reverse, Array.length_toList]; exact hi)]
    rfl
  · rw [List.getElem?_eq_none (by rw [List.length_range]; omega), List.getElem?_eq_none (by rw [List.length_reverse, Array.length_toList]; omega)]
    rfl
theorem back_applied {prog : Program} {w : World} {A : Around} {E : Value → Shared → Prop} {s : Shared} {sl : Addr} {vs : Value} {n : Nat} {Q : Int × Int × Nat → Shared → Prop} (hs : s.heap.IsSliceOf sl .none .none vs) (pv : IsPart vs (some (-1)))
    (h : Q (((n : Int) - 1), -1, n) s) : wpAny (model prog w) A (Builtin.Slice.sliceApplied (.ref sl) (pure (n : Int))) Q E s := by
  obtain ⟨os, ho, hcl, hda⟩ := id hs
  unfold Builtin.Slice.sliceApplied Builtin.Slice.sliceFields
  refine wpAny_bind (wpAny_bind (wpAny_field ho hda (x := .none) rfl (wpAny_bind (wpAny_field ho hda (x := .none) rfl (wpAny_bind (wpAny_field ho hda (x := vs) rfl (wpAny_pure ?_)))))))
  refine wpAny_bind (slicePart_ pv ?_)
  show wpAny _ _ (if ((-1 : Int) == 0) = true then _ else _) _ _ s
  rw [if_neg (by decide)]
  refine wpAny_bind (slicePart_none (wpAny_bind (slicePart_none (wpAny_bind (wpAny_pure ?_)))))
  have e1 : Builtin.Slice.sliceAdjust none none (-1) (n : Int) = ((n : Int) - 1, -1) := by
    unfold Builtin.Slice.sliceAdjust
    simp
  have e2 : Builtin.Slice.slicePlaces ((n : Int) - 1) (-1) (-1) = n := by
    unfold Builtin.Slice.slicePlaces
    simp
    omega
  show wpAny _ _ (match Builtin.Slice.sliceAdjust none none (-1) (n : Int) with | (a, b) => pure (a, (-1 : Int), Builtin.Slice.slicePlaces a b (-1))) _ _ s
  rw [e1]
  show wpAny _ _ (pure ((n : Int) - 1, (-1 : Int), Builtin.Slice.slicePlaces ((n : Int) - 1) (-1) (-1))) _ _ s
  rw [e2]
  exact wpAny_pure h
/-- t * k where t is empty or k is 1: t itself -/
theorem tup_mul_same (l : Addr) (items : Array Value) (n : Nat) (dd : Option Addr) (sl : Array (Option Value)) (x : Int) (u : Tok) (z0 : (decide (x < -(2 ^ 63)) || decide (x ≥ 2 ^ 63)) = false) (z1 : (items.isEmpty || x == 1) = true) :
    Meets (Builtin.«tuple.__mul__» ⟨[.ref l, .int x u], []⟩) (fun _ R s => s.heap.get? l = some { cls := .type "tuple", dict := dd, data := .seq items n, slots := sl } ∧ R (.ok (.ret (Value.ref l))) s) :=
  .of_wp fun prog w A R s h => by
    obtain ⟨hp, g, d, tk, os⟩ := s
    obtain ⟨hl, h⟩ := h
    have f1 := AutoSeq1.idx_int
    wp_walk using wpAny_loadPart' hl
    repeat (first
      | (refine wpAny_ite_false (decide_eq_false (by rw [z0]; exact Bool.false_ne_true)) ?_; wp_walk using wpAny_loadPart' hl)
      | (refine wpAny_ite_true (decide_eq_true z1) ?_; wp_walk using wpAny_loadPart' hl))
    exact ⟨_, rfl, h⟩
/-- t * k, k from 1 to 1000, t any tuple of at most 1000 -/
def rRepA (K : PySem.W.Frag) : R2 := fun x y H Q => ∃ l k xs, x = .ref l ∧ y = .int k ∧ SqT K H l xs ∧ 1 ≤ k ∧ k ≤ 1000 ∧ xs.length ≤ 1000 ∧
  (xs = [] ∨ k = 1 → Q (.ref l) H) ∧ (xs ≠ [] → 2 ≤ k → ∀ p, H p = none → Q (.ref p) (upd H p (.tup (List.replicate k.toNat xs).flatten)))
theorem op_repA : OpR X (binaryOp .Mult) (rRepA X.K) := by
  intro pn s sg H x y v u Q I rx ry h
  obtain ⟨l, k, xs, ex, ey, hT, k1, k2, hz, q1, q2⟩ := h
  by_cases hc : xs = [] ∨ k = 1
  · subst ex ey
    have q := q1 hc
    cases rx
    obtain ⟨t, rfl⟩ := ry
    obtain ⟨its, r, ⟨⟨cls, dd, data, sl⟩, ho, hcl, n, hd⟩, _⟩ := I.tuple hT
    simp only at hcl hd
    subst hcl hd
    have z0 : (decide (k < -(2 ^ 63)) || decide (k ≥ 2 ^ 63)) = false := by
      rw [decide_eq_false (by omega), decide_eq_false (by omega)] <;> rfl
    have z1 : (its.toArray.isEmpty || k == 1) = true := by
      rcases hc with e | e
      · subst e
        cases r
        rfl
      · rw [e, Bool.or_eq_true]
        exact .inr rfl
    exact wpAny_binaryOp_repeat_ref (T := "tuple") (U := "int") (by decide) ⟨_, ho, rfl⟩ (fun s' => typeIs_int s' k t) noFill_tuple_mul F.fills_int_mul F.slot_int_rmul repeat_tuple F.slot_int_index.lookup
      (call_meets F.slot_int_rmul (typeIs_int s k t) F.entry_int_rmul (F.args_int_rmul_2 _ _) (int_rmul_tuple k t l its.toArray n dd sl)
        ⟨ho, rfl, ⟨_, ho, rfl⟩, call_meets F.slot_tuple_mul ⟨_, ho, rfl⟩ F.entry_tuple_mul (F.args_tuple_mul_2 _ _) (tup_mul_same l its.toArray n dd sl k t z0 z1) ⟨ho, ⟨.ref l, H, I, rfl, q⟩⟩⟩)
  · have hn : xs ≠ [] := fun e => hc (.inl e)
    have h2 : k ≠ 1 := fun e => hc (.inr e)
    exact op_repT pn s sg H x y v u Q I rx ry ⟨l, k, xs, ex, ey, hT, hn, by omega, k2, hz, q2 hn (by omega)⟩

/-! t[::-1] -/
theorem tup_back {prog : Program} {w : World} {A : Around} {E : Value → Shared → Prop} {s : Shared} {t sl : Addr} {items : Array Value} {vs : Value} {Q : Value → Shared → Prop} (ht : IsTup s.heap t items) (hs : s.heap.IsSliceOf sl .none .none vs) (pv : IsPart vs (some (-1)))
    (h : Q (.ref s.heap.objs.size) { s with heap := s.heap.push { cls := .type "tuple", data := .seq items.toList.reverse.toArray } }) (hz : items.size ≤ sizeLine) : wpAny (model prog w) A (getItem (.ref t) (.ref sl)) Q E s := by
  have fit : sizeOk (.seq items.toList.reverse.toArray) := by
    show items.toList.reverse.toArray.size ≤ sizeLine
    rw [List.size_toArray, List.length_reverse, Array.length_toList]
    exact hz
  obtain ⟨os, ho, hcl, hda⟩ := id hs
  have hTy : s.TypeIs (.ref sl) "slice" := ⟨os, ho, hcl⟩
  unfold getItem
  try with_reducible refine wpAny_holding ?_
  first | refine wpAny_bind (wpAny_pure ?_) | skip
  refine wpAny_bind (wpAny_sequenceKey ht.typeIs (by decide) ?_)
  refine wpAny_bind (wpAny_callSpecial?_slot (name := Str.ofString "__getitem__") ht.typeIs PyProof.Rows.slot_tuple_getitem (wpAny_call_entry PyProof.Rows.slot_tuple_getitem ht.typeIs entry_tuple_getitem ?_ (args_tuple_getitem _ _)))
  show wpAny _ _ (Builtin.Tuple.tupleItemsOf (.ref t) >>= _) _ _ s
  refine wpAny_bind (tupleItemsOf_ ht (wpAny_bind (wpAny_typeOf hTy ?_)))
  rw [if_pos (by decide)]
  refine wpAny_bind (back_applied hs pv ?_)
  have hno : ¬ ((((items.size : Int) - 1) == 0 && (-1 : Int) == 1 && items.size == items.size) = true) := by
    rw [show ((-1 : Int) == 1) = false from rfl, Bool.and_false, Bool.false_and]
    exact Bool.false_ne_true
  show wpAny _ _ (if (((items.size : Int) - 1) == 0 && (-1 : Int) == 1 && items.size == items.size) = true then _ else _) _ _ s
  rw [if_neg hno, pick_back]
  first
    | exact wpAny_bind (m := Builtin.Tuple.tupleExact _) (wpAny_newObj_type (wpAny_pure ⟨_, rfl, wpAny_pure h⟩) fit)
    | exact wpAny_bind (m := Builtin.Tuple.tupleExact _) (wpAny_newObj_type (wpAny_bind (wpAny_pure (wpAny_pure ⟨_, rfl, wpAny_pure h⟩))) fit)
    | exact wpAny_bind (wpAny_bind (m := Builtin.Tuple.tupleExact _) (wpAny_newObj_type (wpAny_pure (wpAny_pure ⟨_, rfl, wpAny_pure h⟩)) fit))
    | exact wpAny_bind (wpAny_bind (m := Builtin.Tuple.tupleExact _) (wpAny_newObj_type (wpAny_pure ⟨_, rfl, wpAny_pure h⟩) fit))
def tRevT (K : PySem.W.Frag) (te : TE) : TE := fun σ H Q => te σ H fun x H1 => ∃ a xs, x = .ref a ∧ SqT K H1 a xs ∧ ∀ p, H1 p = none → Q (.ref p) (upd H1 p (.tup xs.reverse))
theorem pe_revT {e : Expr} {te : TE} {k : Nat} {p1 p2 p3 pos : Pos} (he : PE X e te) : PE X (.Subscript e (.Slice none none (some (.UnaryOp .USub (.Constant (.int 1) k p1) p2)) p3) pos) (tRevT X.K te) := by
  refine ⟨fun pn s sg H Q I h => ?_⟩
  refine Subscript_ (thn (he.run pn s sg H _ I h) fun v s1 ⟨x, H1, I1, r1, q1⟩ => ?_)
  obtain ⟨a, xs, ex, hx, q⟩ := q1
  subst ex
  cases r1
  have hst : PO X (some (.UnaryOp .USub (.Constant (.int 1) k p1) p2)) (tPart (tUn (rU fun i => .int (-i)) (tC (.int 1)))) := po_some (pe_un un_neg pe_int)
  refine wpAny_Slice (thn (po_none.run pn s1 sg H1 (fun o H2 => o = none ∧ H2 = H1) I1 ⟨rfl, rfl⟩) fun vl s2 ⟨l, H2, I2, pl, el, e2⟩ => ?_)
  subst el e2
  refine thn (po_none.run pn s2 sg H2 (fun o H3 => o = none ∧ H3 = H2) I2 ⟨rfl, rfl⟩) fun vu s3 ⟨u, H3, I3, pu, eu, e3⟩ => ?_
  subst eu e3
  refine thn (hst.run pn s3 sg H3 (fun o H4 => o = some (-1) ∧ H4 = H3) I3 ⟨1, rfl, -1, rfl, rfl, rfl⟩) fun vs s4 ⟨o, H4, I4, ps, eo, e4⟩ => ?_
  subst eo e4
  cases pl
  cases pu
  have I5 : Inv X pn sg H4 { s4 with heap := s4.heap.push { cls := .type "slice", data := .fields #[.none, .none, vs] } } := I4.kept (t' := s4.toks) fun b ob q => Heap.get?_push_of_some _ q
  obtain ⟨its, r, ht, hz⟩ := I5.tuple hx
  have hlen := r.length
  show wpAny (model X.prog X.w) X.A (subscriptTail e (.Slice none none (some (.UnaryOp .USub (.Constant (.int 1) k p1) p2)) p3) (.ref a) (.ref s4.heap.objs.size)) (EP X pn sg Q) X.xe { s4 with heap := s4.heap.push { cls := .type "slice", data := .fields #[.none, .none, vs] } }
  refine tail_any (ops := [.ref a, .ref s4.heap.objs.size]) ht.typeIs (PyProof.Rows.slot_tuple_getitem.lookup) ?_ (by with_unfolding_all rfl)
  refine tup_back ht (Heap.IsSliceOf.new _ .none .none vs) ps ?_ (by rw [List.size_toArray]; omega)
  refine ⟨.ref _, _, I5.laid (t' := s4.toks) (o := .tup xs.reverse) (fun b ob q => Heap.get?_push_of_some _ q) (Nat.le_refl _) ?_, rfl, q _ (I5.hok.fresh (Nat.le_refl _))⟩
  exact ⟨by rw [List.length_reverse]; exact hz, _, r.reverse, IsTup.new _ _⟩
end
end N0
namespace N0
open PySem
theorem bo_len : bootBuiltins "len" = some (.builtin "len") := by decide +kernel
theorem bo_abs : bootBuiltins "abs" = some (.builtin "abs") := by decide +kernel
theorem bo_max : bootBuiltins "max" = some (.builtin "max") := by decide +kernel
theorem bo_min : bootBuiltins "min" = some (.builtin "min") := by decide +kernel
theorem bo_all : bootBuiltins "all" = some (.builtin "all") := by decide +kernel
theorem bo_any : bootBuiltins "any" = some (.builtin "any") := by decide +kernel
theorem bo_sum : bootBuiltins "sum" = some (.builtin "sum") := by decide +kernel
theorem bo_isinstance : bootBuiltins "isinstance" = some (.builtin "isinstance") := by decide +kernel
theorem bo_int : bootBuiltins "int" = some (.type "int") := by decide +kernel
theorem bo_bool : bootBuiltins "bool" = some (.type "bool") := by decide +kernel
theorem bo_str : bootBuiltins "str" = some (.type "str") := by decide +kernel
theorem bo_list : bootBuiltins "list" = some (.type "list") := by decide +kernel
theorem bo_tuple : bootBuiltins "tuple" = some (.type "tuple") := by decide +kernel
end N0
namespace N0
open PySem PySem.Spec PyProof.Rows L2 HT
/-! the rules over the written part, this one said by name -/
theorem rel_ty {n : String} : RelV (.ty n) (.type n) := rfl
theorem rel_int {i : Int} {t : Tok} : RelV (.int i) (.int i t) := ⟨_, rfl⟩
section
variable {X : Cx} {K : PySem.W.Frag}
theorem kix_tup (h : X.K = K := by rfl) : IxR X (rIxT K) := h ▸ ix_tup
theorem kix_list (h : X.K = K := by rfl) : IxR X (rIxL K) := h ▸ ix_list
theorem ksl_tupA (h : X.K = K := by rfl) : SlR X (rSlA K) := h ▸ sl_tupA
theorem ksl_list (h : X.K = K := by rfl) : SlR X (rSlL K) := h ▸ sl_list
theorem kop_catA (h : X.K = K := by rfl) : OpR X (binaryOp .Add) (rCatA K) := h ▸ op_catA
theorem kop_repA (h : X.K = K := by rfl) : OpR X (binaryOp .Mult) (rRepA K) := h ▸ op_repA
theorem kop_eqD (hu : X.A.units + 64 < cLine) (h : X.K = K := by rfl) : OpR X (compareOp .Eq) (rEqD K) := h ▸ op_eqD hu
theorem kop_neD (hu : X.A.units + 64 < cLine) (h : X.K = K := by rfl) : OpR X (compareOp .NotEq) (rNeD K) := h ▸ op_neD hu
theorem kcall_isi (h : X.K = K := by rfl) : CallR X (.builtin "isinstance") (rIsi K) := h ▸ call_isi
theorem kcr_all (hc : X.calm = true) (h : X.K = K := by rfl) : CallR X (.builtin "all") (rAll K) := h ▸ cr_all hc
theorem kcr_any (hc : X.calm = true) (h : X.K = K := by rfl) : CallR X (.builtin "any") (rAny K) := h ▸ cr_any hc
theorem kcr_sum (hc : X.calm = true) (h : X.K = K := by rfl) : CallR X (.builtin "sum") (rSum K) := h ▸ cr_sum hc
theorem kcr_min (hc : X.calm = true) (h : X.K = K := by rfl) : CallR X (.builtin "min") (rMin K) := h ▸ cr_min hc
def rLen (K : PySem.W.Frag) : List V → Hp → VK → Prop := fun xs H Q => ∃ p ys, xs = [.ref p] ∧ (SqL K H p ys ∨ SqT K H p ys) ∧ Q (.int ys.length) H
theorem kcall_len (h : X.K = K := by rfl) : CallR X (.builtin "len") (rLen K) := h ▸ call_len_seq
def rListOf (K : PySem.W.Frag) : List V → Hp → VK → Prop := fun xs H Q => ∃ p ys, xs = [.ref p] ∧ (SqL K H p ys ∨ SqT K H p ys) ∧ ∀ l, H l = none → Q (.ref l) (upd H l (.lst ys))
theorem kcall_list (h : X.K = K := by rfl) : CallR X (.type "list") (rListOf K) := h ▸ call_list_of
def rTupOf (K : PySem.W.Frag) : List V → Hp → VK → Prop := fun xs H Q => ∃ p ys, xs = [.ref p] ∧ ((SqL K H p ys ∧ ∀ l, H l = none → Q (.ref l) (upd H l (.tup ys))) ∨ (SqT K H p ys ∧ Q (.ref p) H))
theorem kcall_tuple (h : X.K = K := by rfl) : CallR X (.type "tuple") (rTupOf K) := h ▸ call_tuple_of
variable {tg l : Expr} {tl : TE}
theorem kpi_list (hl : PE X l tl) (h : X.K = K := by rfl) : PI X tg l (iList K tl) := h ▸ pi_list hl
theorem kpi_tup (hl : PE X l tl) (h : X.K = K := by rfl) : PI X tg l (iTup K tl) := h ▸ pi_tup hl
theorem kpt_truth {a : Expr} {ta : TE} (ha : PE X a ta) (he : ∀ whole, isTrue a X.env whole = (do let v ← whole; standAt a.pos; holding [v] (truthy v))) (h : X.K = K := by rfl) :
    PT X a (fun σ H Q => ta σ H fun x H' => ∃ k, TruV K x H' k ∧ Q k H') := h ▸ pt_truth ha he
theorem kpe_revT {e : Expr} {te : TE} {k : Nat} {p1 p2 p3 pos : Pos} (he : PE X e te) (h : X.K = K := by rfl) : PE X (.Subscript e (.Slice none none (some (.UnaryOp .USub (.Constant (.int 1) k p1) p2)) p3) pos) (tRevT K te) := h ▸ pe_revT he
theorem kpg_tup {es : List Expr} {k : Nat} {t : TGs} {n : Nat} {pos : Pos} (hc : X.calm = true) (hh : PGs X es t) (h : X.K = K := by rfl)
    (hn : (assignEach es X.env).length = n := by rfl) (hst : (assignEach es X.env).findIdx? (·.1) = none := by rfl) : PG X (.Tuple es k pos) (gTup K n t) := h ▸ pg_tup hc hh hn hst
end
end N0

namespace N0
open PySem PySem.Spec PyProof.Rows L2 HT
/-! ### what stays: all but a sack of three numbers -/
def Sk (H : Hp) : Option Addr → Prop
  | none => True
  | some s => ∃ a b c : Int, H s = some (.lst [.int a, .int b, .int c])
structure Rs (S : Option Addr) (H H' : Hp) : Prop where
  s0 : Sk H S
  s1 : Sk H' S
  keep : ∀ a o, S ≠ some a → H a = some o → H' a = some o
section
variable {S : Option Addr} {H H1 H2 : Hp} {K : PySem.W.Frag} {a p : Addr} {xs : List V} {o : HO}
theorem Rs.of (h : Sk H S) : Rs S H H := ⟨h, h, fun _ _ _ e => e⟩
theorem Rs.r1 (r : Rs S H H1) : Rs S H1 H1 := .of r.s1
theorem Rs.tr (r : Rs S H H1) (q : Rs S H1 H2) : Rs S H H2 := ⟨r.s0, q.s1, fun a o n e => q.keep a o n (r.keep a o n e)⟩
theorem Sk.same (h : Sk H S) (e : Same H H1) : Sk H1 S := by
  cases S with
  | none => exact True.intro
  | some s => obtain ⟨a, b, c, q⟩ := h; exact ⟨a, b, c, e _ _ q⟩
theorem Rs.same (h : Sk H S) (e : Same H H1) : Rs S H H1 := ⟨h, h.same e, fun a o _ q => e a o q⟩
theorem Rs.to (r : Rs none H H1) : Same H H1 := fun a o e => r.keep a o (fun q => nomatch q) e
theorem Sk.ne (r : Sk H S) (h : H a = some o) (hn : ∀ ys, o ≠ .lst ys) : S ≠ some a := fun q => by
  subst q
  obtain ⟨x, y, z, e⟩ := r
  rw [h] at e
  cases e
  exact hn _ rfl
theorem Rs.tup (r : Rs S H H1) (h : SqT K H a xs) : SqT K H1 a xs := by
  rcases h with (h | ⟨o, h⟩) | h
  · exact .inl (.inl (r.keep _ _ (r.s0.ne h fun _ q => nomatch q) h))
  · exact .inl (.inr ⟨o, r.keep _ _ (r.s0.ne h fun _ q => nomatch q) h⟩)
  · exact .inr h
theorem Rs.lst (r : Rs S H H1) (n : S ≠ some a) (h : SqL K H a xs) : SqL K H1 a xs := by
  rcases h with (h | ⟨o, h⟩) | h
  · exact .inl (.inl (r.keep _ _ n h))
  · exact .inl (.inr ⟨o, r.keep _ _ n h⟩)
  · exact .inr h
theorem new_same (hp : H p = none) : Same H (upd H p o) := fun b u e => by
  rw [upd_ne (ne_of_none e hp)]
  exact e
theorem same_tup (e : Same H H1) (h : SqT K H a xs) : SqT K H1 a xs := (Rs.same (S := none) True.intro e).tup h
/-- a thing that was not there may change -/
theorem same_mut (e : Same H H1) (hp : H p = none) : Same H (upd H1 p o) := fun b u q => by
  rw [upd_ne (ne_of_none q hp)]
  exact e b u q
theorem tup_of (h : H a = some (.tup xs)) : SqT K H a xs := .inl (.inl h)
theorem lst_of (h : H a = some (.lst xs)) : SqL K H a xs := .inl (.inl h)
theorem Rs.fresh (r : Rs S H H1) (hp : H1 p = none) (h0 : H p = none ∨ S = some p ∨ True) : S ≠ some p := fun q => by
  subst q
  obtain ⟨x, y, z, e⟩ := r.s1
  rw [hp] at e
  cases e
end

/-! ### kinds of values -/
/-- an entry of a tuple: a number, or something else -/
inductive En (K : PySem.W.Frag) (H : Hp) : V → Option Int → Prop
  | int (i : Int) : En K H (.int i) (some i)
  | oth {v : V} {t : String} {i b : Bool} (h : TyX K H v (.type t)) (k1 : kitB t "int" = some i) (k2 : kitB t "bool" = some b) (k3 : (i && !b) = false) : En K H v none
/-- a value: a tuple of entries, or something else -/
inductive Va (K : PySem.W.Frag) (H : Hp) : V → Option (List (Option Int)) → Prop
  | tup {a : Addr} {xs : List V} {os : List (Option Int)} (h : SqT K H a xs) (hl : xs.length = os.length) (he : ∀ (j : Nat) x o, xs[j]? = some x → os[j]? = some o → En K H x o) : Va K H (.ref a) (some os)
  | oth {v : V} {t : String} (h : TyX K H v (.type t)) (k : kitB t "tuple" = some false) : Va K H v none
section
variable {K : PySem.W.Frag} {H H1 : Hp}
theorem tyx_same {v : V} {t : Value} (e : Same H H1) (h : TyX K H v t) : TyX K H1 v t := by
  cases h with
  | base b =>
    refine .base ?_
    cases b with
    | non => exact .non
    | bl y => exact .bl y
    | int i => exact .int i
    | str y => exact .str y
    | flt y => exact .flt y
    | lst ea => exact .lst (e _ _ ea)
    | frz ea => exact .frz (e _ _ ea)
    | tup ea => exact .tup (e _ _ ea)
    | dK ea => exact .dK (e _ _ ea)
    | dT ea => exact .dT (e _ _ ea)
    | ins ea cl ha hn htk hm => exact .ins (e _ _ ea) cl ha hn htk hm
  | byt b => exact .byt b
  | set ea => exact .set (e _ _ ea)
  | kList ea c => exact .kList ea c
  | kTuple ea c => exact .kTuple ea c
  | kDict ea c => exact .kDict ea c
  | fTuple ea => exact .fTuple (e _ _ ea)
  | fDict ea => exact .fDict (e _ _ ea)
theorem En.same {v : V} {o : Option Int} (e : Same H H1) (h : En K H v o) : En K H1 v o := by
  cases h with
  | int i => exact .int i
  | oth h k1 k2 k3 => exact .oth (tyx_same e h) k1 k2 k3
theorem tyx_tup {a : Addr} {xs : List V} (h : SqT K H a xs) : TyX K H (.ref a) (.type "tuple") := by
  rcases h with (h | ⟨o, h⟩) | ⟨o, its, n, hk, hc, _⟩
  · exact .base (.tup h)
  · exact .fTuple h
  · exact .kTuple hk hc
/-- whether an entry is a letter or a contrary -/
def okE (n : Int) : Option Int → Bool
  | some i => decide (1 ≤ (if i < 0 then -i else i)) && decide ((if i < 0 then -i else i) ≤ n)
  | none => false
def intsOf : List (Option Int) → List Int
  | [] => []
  | some i :: r => i :: intsOf r
  | none :: r => intsOf r
/-- no entry beside its opposite, as the program asks it -/
def nfB (ns : List Int) : Bool := (List.range (ns.length - 1)).all fun j => !decide (ns.getD j 0 = - ns.getD (j + 1) 0)
def rowB (n m : Int) (os : List (Option Int)) : Bool := !decide (m < os.length) && os.all (okE n)
def bareB (n m : Int) (os : List (Option Int)) : Bool := rowB n m os && nfB (intsOf os)
theorem intsOf_some (ns : List Int) : intsOf (ns.map some) = ns := by
  induction ns with
  | nil => rfl
  | cons a l ih => show a :: intsOf (l.map some) = a :: l; rw [ih]
theorem all_some {n : Int} : ∀ {os : List (Option Int)}, os.all (okE n) = true → os = (intsOf os).map some
  | [], _ => rfl
  | some i :: r, h => by
    rw [List.all_cons, Bool.and_eq_true] at h
    show some i :: r = some i :: (intsOf r).map some
    rw [← all_some h.2]
  | none :: r, h => by
    rw [List.all_cons, Bool.and_eq_true] at h
    exact absurd h.1 Bool.false_ne_true
/-- a tuple of numbers as a value -/
theorem va_ints {a : Addr} {ns : List Int} (h : SqT K H a (ns.map V.int)) : Va K H (.ref a) (some (ns.map some)) := by
  refine .tup h (by rw [List.length_map, List.length_map]) fun j x o hx ho => ?_
  rw [List.getElem?_map] at hx ho
  cases q : ns[j]? with
  | none => rw [q] at hx; cases hx
  | some i =>
    rw [q] at hx ho
    cases hx
    cases ho
    exact .int i
theorem nfB_iff : ∀ {ns : List Int}, nfB ns = true ↔ Fr.Nf ns := by
  have key : ∀ ns : List Int, Fr.Nf ns ↔ ∀ j, j < ns.length - 1 → ns.getD j 0 ≠ - ns.getD (j + 1) 0 := fun ns => by
    induction ns with
    | nil => exact ⟨fun _ j hj => absurd hj (Nat.not_lt_zero _), fun _ => True.intro⟩
    | cons x t ih =>
      cases t with
      | nil => exact ⟨fun _ j hj => absurd hj (Nat.not_lt_zero _), fun _ => True.intro⟩
      | cons y t =>
        constructor
        · intro h j hj
          cases j with
          | zero => exact h.1
          | succ j =>
            have := (ih.mp h.2) j (by simp at hj ⊢; omega)
            exact this
        · intro h
          refine ⟨h 0 (by simp), ih.mpr fun j hj => ?_⟩
          exact h (j + 1) (by simp at hj ⊢; omega)
  intro ns
  rw [key ns]
  unfold nfB
  rw [List.all_eq_true]
  constructor
  · intro h j hj
    have := h j (List.mem_range.mpr hj)
    rw [Bool.not_eq_true'] at this
    exact of_decide_eq_false this
  · intro h j hj
    rw [Bool.not_eq_true']
    exact decide_eq_false (h j (List.mem_range.mp hj))
/-- letters and contraries of n letters -/
def Lt (n : Int) (ns : List Int) : Prop := ∀ i ∈ ns, i ≠ 0 ∧ -n ≤ i ∧ i ≤ n
/-- a word of n letters -/
structure Wd (n : Int) (ns : List Int) : Prop where
  lt : Lt n ns
  nf : Fr.Nf ns
theorem okE_lt {n : Int} {ns : List Int} (h : Lt n ns) : (ns.map some).all (okE n) = true := by
  rw [List.all_eq_true]
  intro o ho
  obtain ⟨i, hi, rfl⟩ := List.mem_map.mp ho
  obtain ⟨h0, h1, h2⟩ := h i hi
  show (decide _ && decide _) = true
  rw [Bool.and_eq_true]
  refine ⟨decide_eq_true ?_, decide_eq_true ?_⟩ <;> split <;> omega
theorem lt_okE {n : Int} {ns : List Int} (h : (ns.map some).all (okE n) = true) : Lt n ns := fun i hi => by
  have := List.all_eq_true.mp h (some i) (List.mem_map.mpr ⟨i, hi, rfl⟩)
  have h2 : (decide (1 ≤ (if i < 0 then -i else i)) && decide ((if i < 0 then -i else i) ≤ n)) = true := this
  rw [Bool.and_eq_true] at h2
  have a1 := of_decide_eq_true h2.1
  have a2 := of_decide_eq_true h2.2
  split at a1 <;> split at a2 <;> omega
theorem row_wd {n m : Int} {ns : List Int} (h : Lt n ns) (hm : (ns.length : Int) ≤ m) : rowB n m (ns.map some) = true := by
  unfold rowB
  rw [okE_lt h, List.length_map, Bool.and_true, Bool.not_eq_true']
  exact decide_eq_false (by omega)
theorem bare_wd {n m : Int} {ns : List Int} (h : Wd n ns) (hm : (ns.length : Int) ≤ m) : bareB n m (ns.map some) = true := by
  unfold bareB
  rw [row_wd h.lt hm, intsOf_some, nfB_iff.mpr h.nf]
  rfl
theorem lt_app {n : Int} {a b : List Int} (ha : Lt n a) (hb : Lt n b) : Lt n (a ++ b) := fun i hi => by
  rcases List.mem_append.mp hi with h | h
  · exact ha i h
  · exact hb i h
theorem lt_push {n e : Int} {s : List Int} (he : e ≠ 0 ∧ -n ≤ e ∧ e ≤ n) (hs : Lt n s) : Lt n (Fr.push e s) := by
  cases s with
  | nil => intro i hi; rw [List.mem_singleton.mp hi]; exact he
  | cons x t =>
    by_cases hx : x = -e
    · rw [Fr.push_eq hx]; exact fun i hi => hs i (List.mem_cons_of_mem _ hi)
    · rw [Fr.push_on hx]
      intro i hi
      rcases List.mem_cons.mp hi with h | h
      · rw [h]; exact he
      · exact hs i h
theorem lt_act {n : Int} : ∀ {w s : List Int}, Lt n w → Lt n s → Lt n (Fr.act w s)
  | [], _, _, hs => hs
  | e :: w, _, hw, hs => lt_act (w := w) (fun i hi => hw i (List.mem_cons_of_mem _ hi)) (lt_push (hw e List.mem_cons_self) hs)
theorem lt_rev {n : Int} {w : List Int} (h : Lt n w) : Lt n w.reverse := fun i hi => h i (List.mem_reverse.mp hi)
theorem lt_nil {n : Int} : Lt n [] := fun _ h => nomatch h
theorem wd_red {n : Int} {w : List Int} (h : Lt n w) : Wd n (Fr.red w) := ⟨lt_rev (lt_act h lt_nil), Fr.red_nf w⟩
theorem lt_opp {n : Int} {w : List Int} (h : Lt n w) : Lt n (Fr.opp w) := fun i hi => by
  unfold Fr.opp at hi
  obtain ⟨j, hj, e⟩ := List.mem_map.mp (List.mem_reverse.mp hi)
  have := h j hj
  omega
theorem len_push (e : Int) (s : List Int) : (Fr.push e s).length ≤ s.length + 1 := by
  cases s with
  | nil => exact Nat.le_refl _
  | cons x t =>
    by_cases hx : x = -e
    · rw [Fr.push_eq hx]; simp; omega
    · rw [Fr.push_on hx]; simp
theorem len_act : ∀ (w s : List Int), (Fr.act w s).length ≤ s.length + w.length
  | [], s => Nat.le_refl _
  | e :: w, s => by
    have h1 := len_act w (Fr.push e s)
    have h2 := len_push e s
    show (Fr.act w (Fr.push e s)).length ≤ _
    rw [List.length_cons]
    omega
theorem len_red (w : List Int) : (Fr.red w).length ≤ w.length := by
  have := len_act w []
  unfold Fr.red
  rw [List.length_reverse]
  simpa using this
end
/-! ### equality of tuples of numbers -/
theorem eqv_ints : ∀ a b : List Int, PyData.eqvAll (a.map PyData.int) (b.map PyData.int) = decide (a = b)
  | [], [] => rfl
  | [], _ :: _ => rfl
  | _ :: _, [] => rfl
  | x :: a, y :: b => by
    show (PyData.eqv (.int x) (.int y) && PyData.eqvAll (a.map PyData.int) (b.map PyData.int)) = _
    rw [eqv_ints a b]
    show ((x == y) && decide (a = b)) = decide (x :: a = y :: b)
    by_cases h : x = y
    · subst h
      by_cases h2 : a = b
      · subst h2; simp
      · simp [h2]
    · simp [h]
theorem eqv_tup (a b : List Int) : PyData.eqv (.tuple (a.map .int)) (.tuple (b.map .int)) = decide (a = b) := eqv_ints a b
theorem canLay_ints : ∀ a : List Int, PyData.canLayAll0 (a.map PyData.int) = true
  | [] => rfl
  | x :: a => by
    show (PyData.canLay0 (.int x) && PyData.canLayAll0 (a.map PyData.int)) = true
    rw [canLay_ints a]
    rfl
theorem dp_ints {K : PySem.W.Frag} {H : Hp} : ∀ ns : List Int, DpAll K H (ns.map V.int) (ns.map PyData.int)
  | [] => .nil
  | x :: a => .cons (.int x) (dp_ints a)
theorem dp_tup {K : PySem.W.Frag} {H : Hp} {a : Addr} {ns : List Int} (h : SqT K H a (ns.map V.int)) : Dp K H (.ref a) (.tuple (ns.map .int)) := .tup h (dp_ints ns)
end N0

namespace N0
open PySem PySem.Spec PyProof.Rows L2 HT
section
variable {K : PySem.W.Frag} {H : Hp} {a b : Addr} {ns ms : List Int} {Q : VK}
def cutI (ns : List Int) (lo hi : Option Int) : List Int := (ns.drop (sIx ns.length 0 lo)).take (sIx ns.length ns.length hi - sIx ns.length 0 lo)
theorem cut_map (ns : List Int) (lo hi : Option Int) : cutV (ns.map V.int) lo hi = (cutI ns lo hi).map V.int := by
  unfold cutV cutI
  rw [List.map_take, List.map_drop, List.length_map]
theorem sl_ints {lo hi : Option Int} (h : SqT K H a (ns.map V.int)) (k : ∀ H' p, Same H H' → SqT K H' p ((cutI ns lo hi).map V.int) → Q (.ref p) H') : rSlA K (.ref a) lo hi H Q := by
  refine ⟨a, _, rfl, h, fun hw => k _ _ (Same.refl _) ?_, fun _ p hp => k _ _ (new_same hp) (tup_of (by rw [upd_same, cut_map]))⟩
  rw [List.length_map] at hw
  unfold cutI
  rw [hw.1, hw.2, List.drop_zero, Nat.sub_zero, List.take_length]
  exact h
theorem cat_ints (h : SqT K H a (ns.map V.int)) (h2 : SqT K H b (ms.map V.int)) (hz : ns.length + ms.length ≤ 100000) (k : ∀ H' p, Same H H' → SqT K H' p ((ns ++ ms).map V.int) → Q (.ref p) H') : rCatA K (.ref a) (.ref b) H Q := by
  refine ⟨a, b, _, _, rfl, rfl, h, h2, ?_, fun e => k _ _ (Same.refl _) ?_, fun _ e => k _ _ (Same.refl _) ?_, fun _ _ p hp => k _ _ (new_same hp) (tup_of (by rw [upd_same, List.map_append]))⟩
  · rw [List.length_map, List.length_map]
    exact Nat.le_trans hz (by decide)
  · have : ns = [] := List.map_eq_nil_iff.mp e
    subst this
    exact h2
  · have : ms = [] := List.map_eq_nil_iff.mp e
    subst this
    rw [List.append_nil]
    exact h
theorem flat_map_rep (ns : List Int) : ∀ k : Nat, (List.replicate k (ns.map V.int)).flatten = (Fr.rep ns k).map V.int := fun k => by
  rw [← Fr.flat_rep, List.map_flatten, List.map_replicate]
theorem rep_ints {k : Int} (h : SqT K H a (ns.map V.int)) (k1 : 1 ≤ k) (k2 : k ≤ 1000) (hz : ns.length ≤ 1000) (q : ∀ H' p, Same H H' → SqT K H' p ((Fr.rep ns k.toNat).map V.int) → Q (.ref p) H') : rRepA K (.ref a) (.int k) H Q := by
  refine ⟨a, k, _, rfl, rfl, h, k1, k2, by rw [List.length_map]; exact hz, fun e => q _ _ (Same.refl _) ?_, fun _ _ p hp => q _ _ (new_same hp) (tup_of (by rw [upd_same, flat_map_rep]))⟩
  rcases e with e | e
  · have : ns = [] := List.map_eq_nil_iff.mp e
    subst this
    rw [Fr.rep_nil]
    exact h
  · subst e
    show SqT K H a ((Fr.rep ns 1).map V.int)
    exact h
theorem cutI_to (ns : List Int) (d : Nat) : cutI ns none (some (d : Int)) = ns.take d := by
  unfold cutI
  rw [sIx_none, sIx_nat, List.drop_zero, Nat.sub_zero]
  by_cases h : d ≤ ns.length
  · rw [Nat.min_eq_left h]
  · rw [Nat.min_eq_right (by omega), List.take_length, List.take_of_length_le (by omega)]
theorem cutI_from (ns : List Int) (d : Nat) : cutI ns (some (d : Int)) none = ns.drop d := by
  unfold cutI
  rw [sIx_none, sIx_nat]
  by_cases h : d ≤ ns.length
  · rw [Nat.min_eq_left h, List.take_of_length_le (by rw [List.length_drop]; omega)]
  · rw [Nat.min_eq_right (by omega), Nat.sub_self, List.take_zero, List.drop_of_length_le (by omega)]
theorem cutI_mid (ns : List Int) (d e : Nat) (he : e ≤ ns.length) (hd : d ≤ e) : cutI ns (some (d : Int)) (some (e : Int)) = (ns.drop d).take (e - d) := by
  unfold cutI
  rw [sIx_nat, sIx_nat, Nat.min_eq_left he, Nat.min_eq_left (by omega)]
end
theorem depth_ints : ∀ ns : List Int, PyData.depthAll (ns.map PyData.int) = 0
  | [] => rfl
  | x :: a => by
    show max (PyData.depth (.int x)) (PyData.depthAll (a.map PyData.int)) = 0
    rw [depth_ints a]
    rfl
theorem shaped_list (ns : List Int) : SeqAt.shaped (.list (ns.map .int)) = true := by
  unfold SeqAt.shaped
  rw [show PyData.canLay0 (.list (ns.map .int)) = PyData.canLayAll0 (ns.map .int) from rfl, canLay_ints, show PyData.depth (.list (ns.map .int)) = PyData.depthAll (ns.map .int) + 1 from rfl, depth_ints]
  rfl
theorem shaped_tup (ns : List Int) : SeqAt.shaped (.tuple (ns.map .int)) = true := by
  unfold SeqAt.shaped
  rw [show PyData.canLay0 (.tuple (ns.map .int)) = PyData.canLayAll0 (ns.map .int) from rfl, canLay_ints, show PyData.depth (.tuple (ns.map .int)) = PyData.depthAll (ns.map .int) + 1 from rfl, depth_ints]
  rfl
theorem eqv_list (a b : List Int) : PyData.eqv (.list (a.map .int)) (.list (b.map .int)) = decide (a = b) := eqv_ints a b
theorem dp_list {K : PySem.W.Frag} {H : Hp} {a : Addr} {ns : List Int} (h : SqL K H a (ns.map V.int)) : Dp K H (.ref a) (.list (ns.map .int)) := .lst h (dp_ints ns)
/-- two tuples of numbers compared -/
theorem ne_tup {K : PySem.W.Frag} {H : Hp} {a b : Addr} {ns ms : List Int} {Q : VK} (h : SqT K H a (ns.map V.int)) (h2 : SqT K H b (ms.map V.int)) (q : Q (.bl (!decide (ns = ms))) H) : rNeD K (.ref a) (.ref b) H Q :=
  ⟨_, _, dp_tup h, dp_tup h2, shaped_tup ns, shaped_tup ms, by rw [eqv_tup]; exact q⟩
theorem eq_tup {K : PySem.W.Frag} {H : Hp} {a b : Addr} {ns ms : List Int} {Q : VK} (h : SqT K H a (ns.map V.int)) (h2 : SqT K H b (ms.map V.int)) (q : Q (.bl (decide (ns = ms))) H) : rEqD K (.ref a) (.ref b) H Q :=
  ⟨_, _, dp_tup h, dp_tup h2, shaped_tup ns, shaped_tup ms, by rw [eqv_tup]; exact q⟩
theorem ne_list {K : PySem.W.Frag} {H : Hp} {a b : Addr} {ns ms : List Int} {Q : VK} (h : SqL K H a (ns.map V.int)) (h2 : SqL K H b (ms.map V.int)) (q : Q (.bl (!decide (ns = ms))) H) : rNeD K (.ref a) (.ref b) H Q :=
  ⟨_, _, dp_list h, dp_list h2, shaped_list ns, shaped_list ms, by rw [eqv_list]; exact q⟩
/-! the core by its two ends -/
def Pal (ns : List Int) (d : Nat) : Prop := 2 * d ≤ ns.length ∧ ∀ j, j < d → ns.getD j 0 = - ns.getD (ns.length - 1 - j) 0
theorem getD_of {ns : List Int} {j : Nat} (h : j < ns.length) : ns[j]? = some (ns.getD j 0) := by
  rw [List.getD_eq_getElem?_getD, List.getElem?_eq_getElem h]
  rfl
theorem pal_split {ns : List Int} {d : Nat} (h : Pal ns d) : ns = ns.take d ++ (ns.drop d).take (ns.length - d - d) ++ Fr.opp (ns.take d) := by
  obtain ⟨h1, h2⟩ := h
  have e : Fr.opp (ns.take d) = ns.drop (ns.length - d) := by
    refine List.ext_getElem? fun j => ?_
    by_cases hj : j < d
    · have a1 : (Fr.opp (ns.take d))[j]? = some (- ns.getD (d - 1 - j) 0) := by
        unfold Fr.opp
        rw [List.getElem?_reverse (by rw [List.length_map, List.length_take]; omega), List.length_map, List.length_take, Nat.min_eq_left (by omega), List.getElem?_map, List.getElem?_take, if_pos (by omega), getD_of (by omega)]
        rfl
      rw [a1, List.getElem?_drop, getD_of (by omega), h2 (d - 1 - j) (by omega), Int.neg_neg]
      have : ns.length - 1 - (d - 1 - j) = ns.length - d + j := by omega
      rw [this]
    · rw [List.getElem?_eq_none (by rw [Fr.opp_len, List.length_take]; omega), List.getElem?_eq_none (by rw [List.length_drop]; omega)]
  rw [e]
  have e2 : ns.drop d = (ns.drop d).take (ns.length - d - d) ++ ns.drop (ns.length - d) := by
    have := (List.take_append_drop (ns.length - d - d) (ns.drop d)).symm
    rw [List.drop_drop] at this
    have e3 : d + (ns.length - d - d) = ns.length - d := by omega
    rw [e3] at this
    exact this
  rw [List.append_assoc, ← e2, List.take_append_drop]
theorem nf_at : ∀ {ns : List Int}, Fr.Nf ns → ∀ j, j + 1 < ns.length → ns.getD j 0 ≠ - ns.getD (j + 1) 0
  | [], _, j, h => absurd h (Nat.not_lt_zero _)
  | [_], _, j, h => by simp at h
  | x :: y :: t, hn, 0, _ => hn.1
  | x :: y :: t, hn, j + 1, h => nf_at (ns := y :: t) hn.2 j (by simp at h ⊢; omega)
theorem pal_mid {n : Int} {ns : List Int} {d : Nat} (hw : Wd n ns) (h : Pal ns d) (hn : ns ≠ []) (stop : ¬ (2 * d + 1 < ns.length ∧ ns.getD d 0 = - ns.getD (ns.length - 1 - d) 0)) :
    (ns.drop d).take (ns.length - d - d) ≠ [] ∧ ∀ x y, ((ns.drop d).take (ns.length - d - d)).getLast? = some x → ((ns.drop d).take (ns.length - d - d)).head? = some y → x ≠ -y := by
  have hp : 0 < ns.length := List.length_pos_iff.mpr hn
  obtain ⟨h1, h2⟩ := h
  have h3 : 2 * d < ns.length := by
    by_cases q : 2 * d = ns.length
    · exfalso
      have hd : 0 < d := by omega
      have a1 := h2 (d - 1) (by omega)
      have e : ns.length - 1 - (d - 1) = d - 1 + 1 := by omega
      rw [e] at a1
      exact nf_at hw.nf (d - 1) (by omega) a1
    · omega
  have hlen : ((ns.drop d).take (ns.length - d - d)).length = ns.length - d - d := by rw [List.length_take, List.length_drop]; omega
  refine ⟨fun q => by rw [q] at hlen; simp at hlen; omega, fun x y hx hy => ?_⟩
  rw [List.getLast?_eq_getElem?, hlen, List.getElem?_take, if_pos (by omega), List.getElem?_drop, getD_of (by omega)] at hx
  rw [List.head?_eq_getElem?, List.getElem?_take, if_pos (by omega), List.getElem?_drop, getD_of (by omega)] at hy
  cases hx
  cases hy
  have e1 : d + (ns.length - d - d - 1) = ns.length - 1 - d := by omega
  rw [e1, Nat.add_zero]
  intro q
  by_cases h4 : 2 * d + 1 < ns.length
  · exact stop ⟨h4, by omega⟩
  · have e2 : ns.length - 1 - d = d := by omega
    rw [e2] at q
    have := (hw.lt (ns.getD d 0) (List.mem_of_getElem? (getD_of (ns := ns) (j := d) (by omega)))).1
    omega
end N0

namespace N0
open PySem PySem.Spec PyProof.Rows L2 HT
section
variable {K : PySem.W.Frag} {H H1 : Hp} {σ : L2.St}
theorem va_same {v : V} {o : Option (List (Option Int))} (e : Same H H1) (h : Va K H v o) : Va K H1 v o := by
  cases h with
  | tup h hl he => exact .tup (same_tup e h) hl fun j x o hx ho => (he j x o hx ho).same e
  | oth h k => exact .oth (tyx_same e h) k
/-- te gives a value of which P holds, and leaves all that was there -/
def EvS (te : TE) (σ : L2.St) (H : Hp) (P : V → Hp → Prop) : Prop := ∀ H1, Same H H1 → ∀ Q : VK, (∀ v H2, Same H1 H2 → P v H2 → Q v H2) → te σ H1 Q
abbrev IsE (K : PySem.W.Frag) (o : Option Int) : V → Hp → Prop := fun v H => En K H v o
abbrev IsT (K : PySem.W.Frag) (os : List (Option Int)) : V → Hp → Prop := fun v H => Va K H v (some os)
theorem evs_c {v : V} {P : V → Hp → Prop} (h : ∀ H1, Same H H1 → P v H1) : EvS (tC v) σ H P := fun H1 e Q q => q v H1 (Same.refl _) (h H1 e)
theorem evs_var {i : Nat} {v : V} {P : V → Hp → Prop} (hv : σ[i]? = some (some v)) (h : ∀ H1, Same H H1 → P v H1) : EvS (tVar i) σ H P := fun H1 e Q q => ⟨v, hv, q v H1 (Same.refl _) (h H1 e)⟩
theorem en_tup0 : IsT K [] (.ref a) (upd H a (.tup [])) := .tup (tup_of upd_same) rfl fun j x o hx _ => nomatch hx
theorem evs_t0 : EvS (tTup tNil) σ H (IsT K []) := fun H1 e Q q => ⟨Nat.zero_le _, fun p hp => q _ _ (new_same hp) (.tup (tup_of upd_same) rfl fun j x o hx _ => nomatch hx)⟩
theorem evs_t1 {te : TE} {o : Option Int} (h : EvS te σ H (IsE K o)) : EvS (tTup (tCons te tNil)) σ H (IsT K [o]) := fun H1 e Q q => h H1 e _ fun v H2 e2 hv =>
  ⟨by show 1 ≤ sizeLine; decide, fun p hp => q _ _ (Same.trans e2 (new_same hp)) (.tup (tup_of upd_same) rfl fun j x u hx hu => by
    cases j with
    | zero => cases hx; cases hu; exact hv.same (new_same hp)
    | succ j => cases hx)⟩
theorem evs_t2 {te tf : TE} {o u : Option Int} (h : EvS te σ H (IsE K o)) (h2 : EvS tf σ H (IsE K u)) : EvS (tTup (tCons te (tCons tf tNil))) σ H (IsT K [o, u]) := fun H1 e Q q => h H1 e _ fun v H2 e2 hv => h2 H2 (Same.trans e e2) _ fun v2 H3 e3 hv2 =>
  ⟨by show 2 ≤ sizeLine; decide, fun p hp => q _ _ (Same.trans (Same.trans e2 e3) (new_same hp)) (.tup (tup_of upd_same) rfl fun j x y hx hy => by
    cases j with
    | zero => cases hx; cases hy; exact (hv.same e3).same (new_same hp)
    | succ j =>
      cases j with
      | zero => cases hx; cases hy; exact hv2.same (new_same hp)
      | succ j => cases hx)⟩
theorem evs_cat {ta tb : TE} {os ps : List (Option Int)} (h1 : EvS ta σ H (IsT K os)) (h2 : EvS tb σ H (IsT K ps)) (hz : os.length + ps.length ≤ 100000) : EvS (tOp (rCatA K) ta tb) σ H (IsT K (os ++ ps)) := fun H1 e Q q =>
  h1 H1 e _ fun v H2 e2 hv => h2 H2 (Same.trans e e2) _ fun v2 H3 e3 hv2 => by
    have hv := va_same e3 hv
    cases hv with
    | @tup a xs _ h hl he =>
      cases hv2 with
      | @tup b ys _ h' hl' he' =>
        refine ⟨a, b, xs, ys, rfl, rfl, h, h', Nat.le_trans (by omega) (by decide : 100000 ≤ sizeLine), fun ex => q _ _ (Same.trans e2 e3) ?_, fun _ ey => q _ _ (Same.trans e2 e3) ?_, fun _ _ p hp => q _ _ (Same.trans (Same.trans e2 e3) (new_same hp)) ?_⟩
        · subst ex
          have : os = [] := List.eq_nil_of_length_eq_zero hl.symm
          subst this
          exact .tup h' hl' he'
        · subst ey
          have : ps = [] := List.eq_nil_of_length_eq_zero hl'.symm
          subst this
          rw [List.append_nil]
          exact .tup h hl he
        · refine .tup (tup_of upd_same) (by rw [List.length_append, List.length_append, hl, hl']) fun j x o hx ho => ?_
          refine En.same (new_same hp) ?_
          by_cases hj : j < xs.length
          · rw [List.getElem?_append_left hj] at hx
            rw [List.getElem?_append_left (by omega)] at ho
            exact he j x o hx ho
          · rw [List.getElem?_append_right (by omega)] at hx
            rw [List.getElem?_append_right (by omega), ← hl] at ho
            exact he' _ x o hx ho
theorem evs_ints {te : TE} {a : Addr} {ns : List Int} (h : EvS te σ H fun v H => ∃ a, v = .ref a ∧ SqT K H a (ns.map V.int)) : EvS te σ H (IsT K (ns.map some)) := fun H1 e Q q => h H1 e _ fun v H2 e2 ⟨a, ev, ha⟩ => q v H2 e2 (by rw [ev]; exact va_ints ha)
abbrev IsI (K : PySem.W.Frag) (ns : List Int) : V → Hp → Prop := fun v H => ∃ a, v = .ref a ∧ SqT K H a (ns.map V.int)
theorem isI {te : TE} {ns : List Int} (h : EvS te σ H (IsI K ns)) : EvS te σ H (IsT K (ns.map some)) := fun H1 e Q q => h H1 e _ fun v H2 e2 ⟨a, ev, ha⟩ => q v H2 e2 (by rw [ev]; exact va_ints ha)
theorem evs_to {i j : Nat} {a : Addr} {k : Nat} {ns : List Int} (hi : σ[i]? = some (some (.ref a))) (hj : σ[j]? = some (some (.int (k : Int)))) (h : SqT K H a (ns.map V.int)) : EvS (tSl (rSlA K) (tVar i) tNoPart (tPart (tVar j))) σ H (IsI K (ns.take k)) := fun H1 e Q q =>
  ⟨.ref a, hi, .int (k : Int), hj, (k : Int), rfl, sl_ints (same_tup e h) fun H2 p e2 hp => q _ _ e2 ⟨p, rfl, by rw [cutI_to] at hp; exact hp⟩⟩
theorem nopart {Q : Option Int → Hp → Prop} (h : Q none H) : tNoPart σ H Q := h
theorem evs_from {i j : Nat} {a : Addr} {k : Nat} {ns : List Int} (hi : σ[i]? = some (some (.ref a))) (hj : σ[j]? = some (some (.int (k : Int)))) (h : SqT K H a (ns.map V.int)) : EvS (tSl (rSlA K) (tVar i) (tPart (tVar j)) tNoPart) σ H (IsI K (ns.drop k)) := fun H1 e Q q =>
  ⟨.ref a, hi, .int (k : Int), hj, (k : Int), rfl, nopart (sl_ints (same_tup e h) fun H2 p e2 hp => q _ _ e2 ⟨p, rfl, by rw [cutI_from] at hp; exact hp⟩)⟩
/-- what is judged, and the word on it -/
def Itm (K : PySem.W.Frag) (J : Option (List (Option Int)) → Bool) : V → Hp → Prop := fun x H => ∃ (t : Addr) (v : V) (b : Bool) (o : Option (List (Option Int))), x = .ref t ∧ SqT K H t [v, .bl b] ∧ Va K H v o ∧ J o = b
theorem itm_same {J : Option (List (Option Int)) → Bool} {x : V} (e : Same H H1) (h : Itm K J x H) : Itm K J x H1 := by
  obtain ⟨t, v, b, o, e1, e2, e3, e4⟩ := h
  exact ⟨t, v, b, o, e1, same_tup e e2, va_same e e3, e4⟩
theorem evs_itm {J : Option (List (Option Int)) → Bool} {te : TE} {b : Bool} (h : EvS te σ H fun v H => ∃ o, Va K H v o ∧ J o = b) : EvS (tTup (tCons te (tCons (tC (.bl b)) tNil))) σ H (Itm K J) := fun H1 e Q q => h H1 e _ fun v H2 e2 ⟨o, hv, hj⟩ =>
  ⟨by show 2 ≤ sizeLine; decide, fun p hp => q _ _ (Same.trans e2 (new_same hp)) ⟨p, v, b, o, rfl, tup_of upd_same, va_same (new_same hp) hv, hj⟩⟩
theorem evs_of {te : TE} {P P' : V → Hp → Prop} (h : EvS te σ H P) (f : ∀ v H, P v H → P' v H) : EvS te σ H P' := fun H1 e Q q => h H1 e Q fun v H2 e2 hv => q v H2 e2 (f v H2 hv)
theorem itm_t {J : Option (List (Option Int)) → Bool} {te : TE} {b : Bool} {os : List (Option Int)} (h : EvS te σ H (IsT K os)) (hj : J (some os) = b) : EvS (tTup (tCons te (tCons (tC (.bl b)) tNil))) σ H (Itm K J) := evs_itm (evs_of h fun v H hv => ⟨_, hv, hj⟩)
theorem itm_o {J : Option (List (Option Int)) → Bool} {te : TE} {b : Bool} (h : EvS te σ H fun v H => Va K H v none) (hj : J none = b) : EvS (tTup (tCons te (tCons (tC (.bl b)) tNil))) σ H (Itm K J) := evs_itm (evs_of h fun v H hv => ⟨_, hv, hj⟩)
/-- the items of a display -/
def EvA (ta : TA) (σ : L2.St) (H : Hp) (n : Nat) (P : V → Hp → Prop) : Prop := ∀ H1, Same H H1 → ∀ Q : List V → Hp → Prop, (∀ vs H2, Same H1 H2 → vs.length = n → (∀ v ∈ vs, P v H2) → Q vs H2) → ta σ H1 Q
theorem eva_nil {P : V → Hp → Prop} : EvA tNil σ H 0 P := fun H1 e Q q => q [] H1 (Same.refl _) rfl fun _ h => nomatch h
theorem eva_cons {te : TE} {ta : TA} {n : Nat} {P : V → Hp → Prop} (pp : ∀ v H H1, Same H H1 → P v H → P v H1) (h : EvS te σ H P) (h2 : EvA ta σ H n P) : EvA (tCons te ta) σ H (n + 1) P := fun H1 e Q q => h H1 e _ fun v H2 e2 hv => h2 H2 (Same.trans e e2) _ fun vs H3 e3 hn hvs =>
  q _ _ (Same.trans e2 e3) (by rw [List.length_cons, hn]) fun u hu => by
    rcases List.mem_cons.mp hu with hu | hu
    · rw [hu]; exact pp _ _ _ e3 hv
    · exact hvs u hu
end
end N0

/-! rotations: which is least -/
namespace Rg
def Lt (a : Nat → Int) (s t : Nat) : Prop := ∃ j, (∀ i, i < j → a (s + i) = a (t + i)) ∧ a (s + j) < a (t + j)
variable {a : Nat → Int}
theorem Lt.irr {s : Nat} : ¬ Lt a s s := fun ⟨j, _, h⟩ => Int.lt_irrefl _ h
theorem Lt.asy {s t : Nat} (h : Lt a s t) : ¬ Lt a t s := fun ⟨j, h1, h2⟩ => by
  obtain ⟨i, g1, g2⟩ := h
  rcases Nat.lt_trichotomy i j with q | q | q
  · have := h1 i q; omega
  · subst q; omega
  · have := g1 j q; omega
theorem Lt.ntr {s t u : Nat} (h1 : ¬ Lt a s t) (h2 : ¬ Lt a t u) : ¬ Lt a s u := fun ⟨j, g1, g2⟩ => by
  have key : ∀ k, k ≤ j → ∀ i, i < k → a (t + i) = a (s + i) := by
    intro k
    induction k with
    | zero => exact fun _ i hi => absurd hi (Nat.not_lt_zero _)
    | succ k ih =>
      intro hk i hi
      have ih := ih (by omega)
      by_cases q : i < k
      · exact ih i q
      · have : i = k := by omega
        subst this
        have e1 : ¬ a (s + i) < a (t + i) := fun q => h1 ⟨i, fun m hm => (ih m hm).symm, q⟩
        have e2 : ¬ a (t + i) < a (u + i) := fun q => h2 ⟨i, fun m hm => (ih m hm).trans (g1 m (by omega)), q⟩
        have e3 := g1 i (by omega)
        omega
  have ih := key j (Nat.le_refl _)
  have e1 : ¬ a (s + j) < a (t + j) := fun q => h1 ⟨j, fun m hm => (ih m hm).symm, q⟩
  exact h2 ⟨j, fun m hm => (ih m hm).trans (g1 m hm), by omega⟩
theorem exists_min (a : Nat → Int) : ∀ n, 0 < n → ∃ m, m < n ∧ ∀ t, t < n → ¬ Lt a t m
  | 0, h => absurd h (Nat.lt_irrefl _)
  | 1, _ => ⟨0, by decide, fun t ht => (show t = 0 by omega) ▸ Lt.irr⟩
  | n + 2, _ => by
    obtain ⟨m, hm, h⟩ := exists_min a (n + 1) (by omega)
    by_cases q : Lt a (n + 1) m
    · refine ⟨n + 1, by omega, fun t ht => ?_⟩
      by_cases e : t = n + 1
      · subst e; exact Lt.irr
      · exact Lt.ntr (h t (by omega)) q.asy
    · refine ⟨m, by omega, fun t ht => ?_⟩
      by_cases e : t = n + 1
      · subst e; exact q
      · exact h t (by omega)
def Per (a : Nat → Int) (n : Nat) : Prop := ∀ i, a (i + n) = a i
theorem Per.mul {n : Nat} (h : Per a n) : ∀ k i, a (i + k * n) = a i
  | 0, i => by rw [Nat.zero_mul, Nat.add_zero]
  | k + 1, i => by rw [Nat.succ_mul, ← Nat.add_assoc, h, h.mul k]
theorem Per.mod {n : Nat} (h : Per a n) (t i : Nat) : a (t % n + i) = a (t + i) := by
  have e : t + i = t % n + i + (t / n) * n := by have := Nat.mod_add_div t n; rw [Nat.mul_comm] at this; omega
  rw [e, h.mul]
def Least (a : Nat → Int) (s : Nat) : Prop := ∀ t, ¬ Lt a t s
theorem least_min {n : Nat} (p : Per a n) (hn : 0 < n) {s : Nat} (h : ∀ t, t < n → ¬ Lt a t s) : Least a s := fun t ⟨j, h1, h2⟩ => h (t % n) (Nat.mod_lt _ hn) ⟨j, fun i hi => by rw [p.mod]; exact h1 i hi, by rw [p.mod]; exact h2⟩
theorem least_eq {s t : Nat} (hs : Least a s) (ht : Least a t) : ∀ i, a (s + i) = a (t + i) := fun i => by
  have key : ∀ k, ∀ i, i < k → a (s + i) = a (t + i) := by
    intro k
    induction k with
    | zero => exact fun i hi => absurd hi (Nat.not_lt_zero _)
    | succ k ih =>
      intro i hi
      by_cases q : i < k
      · exact ih i q
      · have : i = k := by omega
        subst this
        have e1 : ¬ a (s + i) < a (t + i) := fun q => ht s ⟨i, ih, q⟩
        have e2 : ¬ a (t + i) < a (s + i) := fun q => hs t ⟨i, fun m hm => (ih m hm).symm, q⟩
        omega
  exact key (i + 1) i (by omega)
theorem least_of_eq {s t : Nat} (hs : Least a s) (h : ∀ i, a (s + i) = a (t + i)) : Least a t := fun u ⟨j, h1, h2⟩ => hs u ⟨j, fun i hi => (h1 i hi).trans (h i).symm, by rw [h]; exact h2⟩
/-- two places that compete -/
structure Inv (a : Nat → Int) (f s k : Nat) : Prop where
  ne : f ≠ s
  eq : ∀ i, i < k → a (f + i) = a (s + i)
  bad : ∀ t, t < max f s → t ≠ f → t ≠ s → ∃ u, Lt a u t
theorem Inv.symm {f s k : Nat} (h : Inv a f s k) : Inv a s f k := ⟨h.ne.symm, fun i hi => (h.eq i hi).symm, fun t ht h1 h2 => h.bad t (by omega) h2 h1⟩
theorem Inv.start : Inv a 0 1 0 := ⟨by decide, fun i hi => absurd hi (Nat.not_lt_zero _), fun t ht h1 h2 => by omega⟩
theorem Inv.grow {f s k : Nat} (h : Inv a f s k) (e : a (f + k) = a (s + k)) : Inv a f s (k + 1) := ⟨h.ne, fun i hi => by
  by_cases q : i < k
  · exact h.eq i q
  · have : i = k := by omega
    subst this; exact e, h.bad⟩
theorem Inv.lost {f s k : Nat} (h : Inv a f s k) (e : a (s + k) < a (f + k)) (t : Nat) (h1 : f ≤ t) (h2 : t ≤ f + k) : ∃ u, Lt a u t := by
  refine ⟨s + (t - f), k - (t - f), fun i hi => ?_, ?_⟩
  · have e1 : s + (t - f) + i = s + ((t - f) + i) := by omega
    have e2 : t + i = f + ((t - f) + i) := by omega
    rw [e1, e2]
    exact (h.eq _ (by omega)).symm
  · have e1 : s + (t - f) + (k - (t - f)) = s + k := by omega
    have e2 : t + (k - (t - f)) = f + k := by omega
    rw [e1, e2]
    exact e
theorem Inv.on {f s k : Nat} (h : Inv a f s k) (e : a (s + k) < a (f + k)) (hne : f + k + 1 ≠ s) : Inv a (f + k + 1) s 0 := by
  refine ⟨hne, fun i hi => absurd hi (Nat.not_lt_zero _), fun t ht h1 h2 => ?_⟩
  by_cases q : f ≤ t ∧ t ≤ f + k
  · exact h.lost e t q.1 q.2
  · exact h.bad t (by omega) (by omega) h2
theorem Inv.on2 {f s k : Nat} (h : Inv a f s k) (e : a (s + k) < a (f + k)) (hne : f + k + 1 = s) : Inv a (f + k + 1) (s + 1) 0 := by
  refine ⟨by omega, fun i hi => absurd hi (Nat.not_lt_zero _), fun t ht h1 h2 => ?_⟩
  by_cases q : f ≤ t ∧ t ≤ f + k
  · exact h.lost e t q.1 q.2
  · exact h.bad t (by omega) (by omega) (by omega)
theorem Inv.done {n f s k : Nat} (p : Per a n) (hn : 0 < n) (h : Inv a f s k) (hlt : f < s) (hz : ¬ (s < n ∧ k < n)) : f < n ∧ Least a f := by
  obtain ⟨m, hm, hmin⟩ := exists_min a n hn
  have lm := least_min p hn hmin
  have nb : ∀ t, t < s → t ≠ f → ∃ u, Lt a u t := fun t ht h1 => h.bad t (by omega) h1 (by omega)
  by_cases q : m < s
  · by_cases e : m = f
    · subst e; exact ⟨hm, lm⟩
    · obtain ⟨u, hu⟩ := nb m q e
      exact absurd hu (lm u)
  · have hk : ¬ k < n := fun z => hz ⟨by omega, z⟩
    have per : ∀ i, a (f + i) = a (s + i) := fun i => by
      have e1 : a (f + i) = a (f + i % n) := by
        have := p.mul (i / n) (f + i % n)
        have e : f + i % n + i / n * n = f + i := by have := Nat.mod_add_div i n; rw [Nat.mul_comm] at this; omega
        rw [e] at this; exact this
      have e2 : a (s + i) = a (s + i % n) := by
        have := p.mul (i / n) (s + i % n)
        have e : s + i % n + i / n * n = s + i := by have := Nat.mod_add_div i n; rw [Nat.mul_comm] at this; omega
        rw [e] at this; exact this
      have := Nat.mod_lt i hn
      rw [e1, e2, h.eq (i % n) (by omega)]
    let d := s - f
    let b : Nat → Int := fun i => a (f + i)
    have pb : Per b d := fun i => by
      show a (f + (i + (s - f))) = a (f + i)
      have e : f + (i + (s - f)) = s + i := by omega
      rw [e, per]
    have hd : 0 < d := by show 0 < s - f; omega
    have eqs : ∀ i, a (f + (m - f) % d + i) = a (m + i) := fun i => by
      have := pb.mod (m - f) i
      show _
      have e1 : a (f + ((m - f) % d + i)) = a (f + ((m - f) + i)) := this
      have e2 : f + ((m - f) + i) = m + i := by omega
      have e3 : f + (m - f) % d + i = f + ((m - f) % d + i) := by omega
      rw [e3, e1, e2]
    have hmod := Nat.mod_lt (m - f) hd
    by_cases e : (m - f) % d = 0
    · rw [e, Nat.add_zero] at eqs
      exact ⟨by omega, least_of_eq lm fun i => (eqs i).symm⟩
    · obtain ⟨u, hu⟩ := nb (f + (m - f) % d) (by show _ < s; have : d = s - f := rfl; omega) (by omega)
      exact absurd hu (least_of_eq lm (fun i => (eqs i).symm) u)
theorem Inv.fin {n f s k : Nat} (p : Per a n) (hn : 0 < n) (h : Inv a f s k) (hz : ¬ (f < n ∧ s < n ∧ k < n)) : min f s < n ∧ Least a (min f s) := by
  rcases Nat.lt_or_ge f s with q | q
  · have := h.done p hn q (by omega)
    rw [Nat.min_eq_left (by omega)]; exact this
  · have hne := h.ne
    have := h.symm.done p hn (by omega) (by omega)
    rw [Nat.min_eq_right (by omega)]; exact this
/-! a list, round and round -/
def sq (l : List Int) (i : Nat) : Int := l.getD (i % l.length) 0
def rot (l : List Int) (k : Nat) : List Int := l.drop k ++ l.take k
theorem per_sq (l : List Int) : Per (sq l) l.length := fun i => by unfold sq; rw [Nat.add_mod_right]
theorem rot_len (l : List Int) (k : Nat) : (rot l k).length = l.length := by
  unfold rot; rw [List.length_append, List.length_drop, List.length_take]; omega
theorem rot_at {l : List Int} {k j : Nat} (hk : k ≤ l.length) (hj : j < l.length) : (rot l k).getD j 0 = sq l (k + j) := by
  unfold rot sq
  rw [List.getD_eq_getElem?_getD, List.getD_eq_getElem?_getD]
  by_cases q : j < l.length - k
  · rw [List.getElem?_append_left (by rw [List.length_drop]; exact q), List.getElem?_drop, Nat.mod_eq_of_lt (by omega)]
  · rw [List.getElem?_append_right (by rw [List.length_drop]; omega), List.length_drop, List.getElem?_take, if_pos (by omega)]
    have e : k + j = j - (l.length - k) + l.length := by omega
    rw [e, Nat.add_mod_right, Nat.mod_eq_of_lt (by omega)]
theorem list_ext {l m : List Int} (hl : l.length = m.length) (h : ∀ j, j < l.length → l.getD j 0 = m.getD j 0) : l = m := by
  refine List.ext_getElem? fun j => ?_
  by_cases q : j < l.length
  · rw [N0.getD_of q, N0.getD_of (hl ▸ q), h j q]
  · rw [List.getElem?_eq_none (by omega), List.getElem?_eq_none (by omega)]
theorem rot_sq {l : List Int} {k : Nat} (hk : k ≤ l.length) (i : Nat) : sq (rot l k) i = sq l (k + i) := by
  by_cases hn : l.length = 0
  · have : l = [] := List.eq_nil_of_length_eq_zero hn
    subst this
    unfold rot sq; simp
  · have : sq (rot l k) i = (rot l k).getD (i % l.length) 0 := by show (rot l k).getD (i % (rot l k).length) 0 = _; rw [rot_len]
    rw [this, rot_at hk (Nat.mod_lt _ (by omega))]
    have e := (per_sq l).mul (i / l.length) (k + i % l.length)
    have e1 : k + i % l.length + i / l.length * l.length = k + i := by have := Nat.mod_add_div i l.length; rw [Nat.mul_comm] at this; omega
    rw [e1] at e
    exact e.symm
theorem sq_self {l : List Int} {j : Nat} (hj : j < l.length) : sq l j = l.getD j 0 := by unfold sq; rw [Nat.mod_eq_of_lt hj]
/-- a row is the ring of another one -/
def Ring (m r : List Int) : Prop := r.length = m.length ∧ ∃ s, Least (sq m) s ∧ ∀ i, sq r i = sq m (s + i)
theorem ring_uniq {m r q : List Int} (h1 : Ring m r) (h2 : Ring m q) : r = q := by
  obtain ⟨l1, s, a1, b1⟩ := h1
  obtain ⟨l2, t, a2, b2⟩ := h2
  refine list_ext (l1.trans l2.symm) fun j hj => ?_
  have := least_eq a1 a2 j
  rw [← b1, ← b2, sq_self hj, sq_self (by omega)] at this
  exact this
theorem ring_rot {m : List Int} {k : Nat} (hk : k ≤ m.length) (h : Least (sq m) k) : Ring m (rot m k) := ⟨rot_len m k, k, h, fun i => rot_sq hk i⟩
/-- m is u turned -/
def Tn (u m : List Int) : Prop := m.length = u.length ∧ ∃ k, ∀ i, sq m i = sq u (k + i)
theorem tn_rot {m : List Int} {k : Nat} (hk : k ≤ m.length) : Tn m (rot m k) := ⟨rot_len m k, k, fun i => rot_sq hk i⟩
theorem Tn.refl (m : List Int) : Tn m m := ⟨rfl, 0, fun i => by rw [Nat.zero_add]⟩
theorem Tn.symm {u m : List Int} (h : Tn u m) : Tn m u := by
  obtain ⟨h1, k, h2⟩ := h
  by_cases hn : u.length = 0
  · have e1 : u = [] := List.eq_nil_of_length_eq_zero hn
    have e2 : m = [] := List.eq_nil_of_length_eq_zero (by omega)
    subst e1 e2
    exact Tn.refl _
  · refine ⟨h1.symm, u.length - k % u.length, fun i => ?_⟩
    rw [h2]
    have hm := Nat.mod_lt k (Nat.pos_of_ne_zero hn)
    have hd := Nat.mod_add_div k u.length
    rw [Nat.mul_comm] at hd
    have e : k + (u.length - k % u.length + i) = i + (k / u.length + 1) * u.length := by rw [Nat.add_mul, Nat.one_mul]; omega
    rw [e, (per_sq u).mul]
theorem Tn.trans {u m v : List Int} (h : Tn u m) (g : Tn m v) : Tn u v := by
  obtain ⟨h1, k, h2⟩ := h
  obtain ⟨g1, l, g2⟩ := g
  exact ⟨g1.trans h1, k + l, fun i => by rw [g2, h2, Nat.add_assoc]⟩
theorem Ring.tn {m r : List Int} (h : Ring m r) : Tn m r := ⟨h.1, h.2.choose, h.2.choose_spec.2⟩
theorem ring_tn {u m r : List Int} (h : Tn u m) (g : Ring u r) : Ring m r := by
  obtain ⟨g1, s, g2, g3⟩ := g
  obtain ⟨h1, k, h2⟩ := h.symm
  refine ⟨g1.trans h1, k + s, fun t ht => ?_, fun i => by rw [g3, h2, Nat.add_assoc]⟩
  obtain ⟨_, l, h4⟩ := h
  obtain ⟨j, e1, e2⟩ := ht
  rw [Nat.add_assoc] at e2
  refine g2 (l + t) ⟨j, fun i hi => ?_, ?_⟩
  · have := e1 i hi
    rw [h4, Nat.add_assoc k, ← h2, ← Nat.add_assoc] at this
    exact this
  · rw [h4, ← h2, ← Nat.add_assoc] at e2
    exact e2
theorem ring_ex (m : List Int) : ∃ r, Ring m r := by
  by_cases hn : m.length = 0
  · have e1 : m = [] := List.eq_nil_of_length_eq_zero hn
    subst e1
    exact ⟨[], rfl, 0, fun t ⟨j, _, h⟩ => by unfold sq at h; simp at h, fun i => by rw [Nat.zero_add]⟩
  · obtain ⟨k, hk, h⟩ := exists_min (sq m) m.length (by omega)
    exact ⟨rot m k, ring_rot (by omega) (least_min (per_sq m) (by omega) h)⟩
theorem tn_of_ring {u m r : List Int} (h : Ring u r) (g : Ring m r) : Tn u m := h.tn.trans g.tn.symm
theorem ring_nil : Ring [] [] := ⟨rfl, 0, fun t ⟨j, _, h⟩ => by unfold sq at h; simp at h, fun i => by rw [Nat.zero_add]⟩
theorem Ring.self {m r : List Int} (h : Ring m r) : Ring r r := ring_tn h.tn h
/-! by the order of tuples -/
theorem lex_of : ∀ (x y : List Int) (j : Nat), x.length = y.length → j < x.length → (∀ i, i < j → x.getD i 0 = y.getD i 0) → x.getD j 0 < y.getD j 0 → HT.lexLt x y = true
  | [], _, j, _, h, _, _ => absurd h (Nat.not_lt_zero _)
  | _ :: _, [], j, h, _, _, _ => nomatch h
  | x :: xs, y :: ys, 0, _, _, _, h2 => by
    have h2 : x < y := h2
    rw [HT.lexLt_cons, if_neg (by omega)]
    exact decide_eq_true h2
  | x :: xs, y :: ys, j + 1, hl, hj, h1, h2 => by
    have h0 : x = y := h1 0 (by omega)
    rw [HT.lexLt_cons, if_pos h0]
    exact lex_of xs ys j (by simpa using hl) (by simpa using hj) (fun i hi => h1 (i + 1) (by omega)) h2
theorem least_lex {l : List Int} {k : Nat} (hk : k < l.length) (h : ∀ t, t < l.length → HT.lexLt (rot l t) (rot l k) = false) : Least (sq l) k := by
  refine least_min (per_sq l) (by omega) fun t ht ⟨j, h1, h2⟩ => ?_
  have hj : j < l.length := by
    refine Decidable.byContradiction fun q => ?_
    have e := h1 (j % l.length) (by have := Nat.mod_lt j (show 0 < l.length by omega); omega)
    have p := fun t => (per_sq l).mul (j / l.length) (t + j % l.length)
    have e1 : ∀ t, t + j % l.length + j / l.length * l.length = t + j := fun t => by have := Nat.mod_add_div j l.length; rw [Nat.mul_comm] at this; omega
    have p1 := p t
    have p2 := p k
    rw [e1] at p1 p2
    omega
  have := lex_of (rot l t) (rot l k) j (by rw [rot_len, rot_len]) (by rw [rot_len]; exact hj) (fun i hi => by rw [rot_at (by omega) (by omega), rot_at (by omega) (by omega)]; exact h1 i hi) (by rw [rot_at (by omega) (by omega), rot_at (by omega) (by omega)]; exact h2)
  rw [h t ht] at this
  cases this
end Rg

/-! cores and rings of words -/
namespace Rg
open Fr
def Cr (m : List Int) : Prop := m ≠ [] ∧ ∀ x y, m.getLast? = some x → m.head? = some y → x ≠ -y
def Spl (ns c m : List Int) : Prop := ns = c ++ m ++ opp c ∧ (ns = [] → c = [] ∧ m = []) ∧ (ns ≠ [] → Cr m)
theorem snoc_of {m : List Int} (h : m ≠ []) : ∃ t q, m = t ++ [q] := ⟨m.dropLast, m.getLast h, (List.dropLast_concat_getLast h).symm⟩
theorem nf_mid {a b c : List Int} (h : Nf (a ++ b ++ c)) : Nf b := nf_back (nf_front h)
theorem nf_cons {x : Int} {w : List Int} (hw : Nf w) (h : ∀ y, w.head? = some y → x ≠ -y) : Nf (x :: w) := by
  cases w with
  | nil => exact True.intro
  | cons y t => exact ⟨h y rfl, hw⟩
theorem nf_end {x : Int} {w : List Int} (hw : Nf w) (h : ∀ y, w.getLast? = some y → y ≠ -x) : Nf (w ++ [x]) := nf_join hw True.intro fun u v hu hv => by cases hv; exact h u hu
theorem last_snoc (t : List Int) (q : Int) : (t ++ [q]).getLast? = some q := by rw [List.getLast?_append]; rfl
theorem nf_jn {a b : List Int} {x y : Int} (hab : Nf (a ++ b)) (hx : a.getLast? = some x) (hy : b.head? = some y) : x ≠ -y := by
  have hne : a ≠ [] := fun q => by rw [q] at hx; cases hx
  obtain ⟨t, q, rfl⟩ := snoc_of hne
  rw [last_snoc] at hx
  cases hx
  cases b with
  | nil => cases hy
  | cons z b' =>
    cases hy
    rw [List.append_assoc] at hab
    exact (nf_back hab).1
theorem turn1 {w c m : List Int} (hw : Nf w) (s : w = c ++ m ++ opp c) (h : Cr m) (x : Int) : ∃ c' m', red ([x] ++ w ++ [-x]) = c' ++ m' ++ opp c' ∧ Cr m' ∧ Tn m m' := by
  have long : (∀ y, w.head? = some y → x ≠ -y) → (∀ y, w.getLast? = some y → y ≠ x) → ∃ c' m', red ([x] ++ w ++ [-x]) = c' ++ m' ++ opp c' ∧ Cr m' ∧ Tn m m' := fun h1 h2 => by
    have hne : w ≠ [] := fun q => by
      rw [q] at s
      have := congrArg List.length s
      simp only [List.length_append, List.length_nil] at this
      exact h.1 (List.eq_nil_of_length_eq_zero (by omega))
    refine ⟨x :: c, m, ?_, h, Tn.refl m⟩
    rw [red_id, opp_cons, s]
    · simp [List.append_assoc]
    · refine nf_end (w := x :: w) (nf_cons hw h1) fun y hy => ?_
      have : (x :: w).getLast? = w.getLast? := by
        cases w with
        | nil => exact absurd rfl hne
        | cons a b => rw [List.getLast?_cons_cons]
      rw [this] at hy
      have := h2 y hy
      omega
  cases c with
  | cons y c =>
    rw [opp_cons] at s
    by_cases q : x = -y
    · refine ⟨c, m, ?_, h, Tn.refl m⟩
      have e : [x] ++ w ++ [-x] = [] ++ x :: y :: ((c ++ m ++ opp c) ++ [-y, -x]) := by rw [s]; simp [List.append_assoc]
      rw [e, red_strike _ _ _ _ q]
      have e2 : [] ++ ((c ++ m ++ opp c) ++ [-y, -x]) = (c ++ m ++ opp c) ++ (-y) :: (-x) :: [] := rfl
      rw [e2, red_strike _ _ _ _ (by omega), List.append_nil]
      refine red_id ?_
      have : w = [y] ++ (c ++ m ++ opp c) ++ [-y] := by rw [s]; simp [List.append_assoc]
      rw [this] at hw
      exact nf_mid hw
    · refine long (fun z hz => ?_) fun z hz => ?_
      · rw [s] at hz; cases hz; exact q
      · rw [s, ← List.append_assoc, last_snoc] at hz; cases hz; omega
  | nil =>
    have s : w = m := by rw [s]; simp [opp]
    subst s
    obtain ⟨p, t, rfl⟩ : ∃ p t, w = p :: t := by
      cases w with
      | nil => exact absurd rfl h.1
      | cons a b => exact ⟨a, b, rfl⟩
    by_cases q : x = -p
    · refine ⟨[], t ++ [p], ?_, ⟨by simp, fun u v hu hv => ?_⟩, tn_rot (m := p :: t) (k := 1) (by simp)⟩
      · have e : [x] ++ (p :: t) ++ [-x] = [] ++ x :: p :: (t ++ [-x]) := rfl
        rw [e, red_strike _ _ _ _ q, List.nil_append, show -x = p by omega]
        have : Nf (t ++ [p]) := by
          refine nf_end hw.tail fun y hy => ?_
          refine h.2 y p ?_ rfl
          cases t with
          | nil => cases hy
          | cons a b => rw [List.getLast?_cons_cons]; exact hy
        rw [red_id this]
        simp [opp]
      · rw [last_snoc] at hu
        cases hu
        cases t with
        | nil => cases hv; exact h.2 p p rfl rfl
        | cons a b => cases hv; exact hw.1
    · obtain ⟨t2, z, e0⟩ := snoc_of h.1
      by_cases q2 : z = x
      · subst q2
        rw [e0] at hw h ⊢
        refine ⟨[], z :: t2, ?_, ⟨by simp, fun u v hu hv => ?_⟩, ?_⟩
        · have e : [z] ++ (t2 ++ [z]) ++ [-z] = (z :: t2) ++ z :: (-z) :: [] := by simp [List.append_assoc]
          rw [e, red_strike _ _ _ _ (by omega), List.append_nil]
          have : Nf (z :: t2) := nf_cons (nf_front hw) fun y hy => by
            refine h.2 z y (last_snoc _ _) ?_
            cases t2 with
            | nil => cases hy
            | cons a b => exact hy
          rw [red_id this]
          simp [opp]
        · cases hv
          cases t2 with
          | nil => cases hu; exact h.2 z z rfl rfl
          | cons a b =>
            rw [List.getLast?_cons_cons] at hu
            exact nf_jn hw hu rfl
        · have := tn_rot (m := t2 ++ [z]) (k := t2.length) (by simp)
          unfold rot at this
          rw [List.drop_left, List.take_left] at this
          exact this
      · refine long (fun y hy => ?_) fun y hy => ?_
        · cases hy; exact q
        · rw [e0, last_snoc] at hy; cases hy; exact q2
theorem spl_nil : Spl [] [] [] := ⟨rfl, fun _ => ⟨rfl, rfl⟩, fun q => absurd rfl q⟩
theorem spl_of {w c m : List Int} (s : w = c ++ m ++ opp c) (h : Cr m) : Spl w c m := ⟨s, fun q => by
  rw [q] at s
  have := congrArg List.length s
  simp only [List.length_append, List.length_nil] at this
  exact absurd (List.eq_nil_of_length_eq_zero (by omega)) h.1, fun _ => h⟩
theorem turn (w c m : List Int) (hw : Nf w) (s : Spl w c m) : ∀ by_ : List Int, ∃ c' m', Spl (red (by_ ++ w ++ opp by_)) c' m' ∧ Tn m m'
  | b => by
    by_cases hn : w = []
    · obtain ⟨rfl, rfl⟩ := s.2.1 hn
      subst hn
      rw [List.append_nil, red_opp_self]
      exact ⟨[], [], spl_nil, Tn.refl _⟩
    · suffices ∃ c' m', red (b ++ w ++ opp b) = c' ++ m' ++ opp c' ∧ Cr m' ∧ Tn m m' by
        obtain ⟨c', m', e1, e2, e3⟩ := this
        exact ⟨c', m', spl_of e1 e2, e3⟩
      induction b with
      | nil => exact ⟨c, m, by rw [show ([] : List Int) ++ w ++ opp [] = w by simp [opp], red_id hw]; exact s.1, s.2.2 hn, Tn.refl _⟩
      | cons x b ih =>
        obtain ⟨c', m', e1, e2, e3⟩ := ih
        obtain ⟨c2, m2, f1, f2, f3⟩ := turn1 (red_nf (b ++ w ++ opp b)) e1 e2 x
        refine ⟨c2, m2, ?_, f2, e3.trans f3⟩
        rw [← f1, opp_cons]
        have e : x :: b ++ w ++ (opp b ++ [-x]) = [x] ++ ((b ++ w ++ opp b) ++ [-x]) := by simp [List.append_assoc]
        rw [e, ← red_app_r, ← red_app_l (b ++ w ++ opp b), red_app_r, List.append_assoc [x]]
theorem spl_uniq : ∀ {c c' : List Int} {w m m' : List Int}, Spl w c m → Spl w c' m' → c = c' ∧ m = m' := fun {c} => by
  suffices ∀ {c' w m m' : List Int}, w = c ++ m ++ opp c → w = c' ++ m' ++ opp c' → Cr m → Cr m' → c = c' ∧ m = m' by
    intro c' w m m' s s'
    by_cases hn : w = []
    · obtain ⟨rfl, rfl⟩ := s.2.1 hn
      obtain ⟨rfl, rfl⟩ := s'.2.1 hn
      exact ⟨rfl, rfl⟩
    · exact this s.1 s'.1 (s.2.2 hn) (s'.2.2 hn)
  have bad : ∀ {x : Int} {c m : List Int}, Cr (x :: c ++ m ++ opp (x :: c)) → False := fun {x c m} h => by
    rw [opp_cons, ← List.append_assoc] at h
    exact h.2 (-x) x (last_snoc _ _) rfl rfl
  induction c with
  | nil =>
    intro c' w m m' s s' h h'
    have s : w = m := by rw [s]; simp [opp]
    subst s
    cases c' with
    | nil => exact ⟨rfl, by rw [s']; simp [opp]⟩
    | cons x c' => rw [s'] at h; exact (bad h).elim
  | cons x c ih =>
    intro c' w m m' s s' h h'
    cases c' with
    | nil =>
      have s' : w = m' := by rw [s']; simp [opp]
      subst s'
      rw [s] at h'
      exact (bad h').elim
    | cons y c' =>
      rw [s, opp_cons, opp_cons, ← List.append_assoc, ← List.append_assoc] at s'
      injection s' with e1 e2
      subst e1
      have e3 := List.append_inj_left' e2 rfl
      obtain ⟨rfl, rfl⟩ := ih rfl e3 h h'
      exact ⟨rfl, rfl⟩
/-- the ring of a word -/
def RingW (w r : List Int) : Prop := ∃ c m, Spl w c m ∧ Ring m r
theorem ringw_uniq {w r q : List Int} (h : RingW w r) (g : RingW w q) : r = q := by
  obtain ⟨c, m, h1, h2⟩ := h
  obtain ⟨c', m', g1, g2⟩ := g
  obtain ⟨rfl, rfl⟩ := spl_uniq h1 g1
  exact ring_uniq h2 g2
theorem ringw_turn {w r : List Int} (hw : Nf w) (h : RingW w r) (b : List Int) : RingW (red (b ++ w ++ opp b)) r := by
  obtain ⟨c, m, h1, h2⟩ := h
  obtain ⟨c', m', g1, g2⟩ := turn w c m hw h1 b
  exact ⟨c', m', g1, ring_tn g2 h2⟩
theorem opp_last (m : List Int) : (opp m).getLast? = m.head?.map fun e => -e := by
  cases m with
  | nil => rfl
  | cons a b => rw [opp_cons, last_snoc]; rfl
theorem opp_head (m : List Int) : (opp m).head? = m.getLast?.map fun e => -e := by
  by_cases hn : m = []
  · subst hn; rfl
  · obtain ⟨t, q, rfl⟩ := snoc_of hn
    rw [opp_app, last_snoc]
    rfl
theorem cr_opp {m : List Int} (h : Cr m) : Cr (opp m) := by
  refine ⟨fun q => h.1 (by have := congrArg opp q; rw [opp_opp] at this; exact this), fun x y hx hy => ?_⟩
  rw [opp_last] at hx
  rw [opp_head] at hy
  cases h1 : m.head? with
  | none => rw [h1] at hx; cases hx
  | some a =>
    cases h2 : m.getLast? with
    | none => rw [h2] at hy; cases hy
    | some b =>
      rw [h1] at hx
      rw [h2] at hy
      cases hx
      cases hy
      have := h.2 b a h2 h1
      show -a ≠ - -b
      omega
theorem spl_opp {w c m : List Int} (s : Spl w c m) : Spl (opp w) c (opp m) := by
  by_cases hn : w = []
  · obtain ⟨rfl, rfl⟩ := s.2.1 hn
    subst hn
    exact spl_nil
  · refine spl_of ?_ (cr_opp (s.2.2 hn))
    rw [s.1, opp_app, opp_app, opp_opp, List.append_assoc]
theorem opp_at {m : List Int} {i : Nat} (hi : i < m.length) : (opp m).getD i 0 = - m.getD (m.length - 1 - i) 0 := by
  rw [List.getD_eq_getElem?_getD]
  unfold opp
  rw [List.getElem?_reverse (by rw [List.length_map]; exact hi), List.length_map, List.getElem?_map, N0.getD_of (by omega)]
  rfl
theorem no_back {m : List Int} (hn : Nf m) (hz : ∀ e, e ∈ m → e ≠ 0) (h : Tn m (opp m)) : m = [] := by
  refine Decidable.byContradiction fun hne => ?_
  have hp : 0 < m.length := List.length_pos_iff.mpr hne
  obtain ⟨_, k, h⟩ := h
  have hk := Nat.mod_lt k hp
  have h : ∀ i, i < m.length → - m.getD (m.length - 1 - i) 0 = sq m (k % m.length + i) := fun i hi => by
    have := h i
    rw [show sq (opp m) i = (opp m).getD i 0 from sq_self (by rw [opp_len]; exact hi), opp_at hi] at this
    rw [this, (per_sq m).mod]
  rcases Nat.mod_two_eq_zero_or_one (m.length - 1 - k % m.length) with q | q
  · have := h ((m.length - 1 - k % m.length) / 2) (by omega)
    rw [sq_self (by omega)] at this
    have e : k % m.length + (m.length - 1 - k % m.length) / 2 = m.length - 1 - (m.length - 1 - k % m.length) / 2 := by omega
    rw [e] at this
    exact hz _ (List.mem_of_getElem? (N0.getD_of (ns := m) (j := m.length - 1 - (m.length - 1 - k % m.length) / 2) (by omega))) (by omega)
  · have := h ((m.length - 2 - k % m.length) / 2) (by omega)
    rw [sq_self (by omega)] at this
    have e : m.length - 1 - (m.length - 2 - k % m.length) / 2 = k % m.length + (m.length - 2 - k % m.length) / 2 + 1 := by omega
    rw [e] at this
    exact N0.nf_at hn (k % m.length + (m.length - 2 - k % m.length) / 2) (by omega) this.symm
theorem spl_empty {w c m : List Int} (s : Spl w c m) (h : m = []) : w = [] := Decidable.byContradiction fun q => (s.2.2 q).1 h
theorem ringw_back {w r : List Int} (hn : Nf w) (hz : ∀ e, e ∈ w → e ≠ 0) (h : RingW w r) (g : RingW (opp w) r) : w = [] := by
  obtain ⟨c, m, h1, h2⟩ := h
  obtain ⟨c', m', g1, g2⟩ := g
  obtain ⟨rfl, rfl⟩ := spl_uniq g1 (spl_opp h1)
  refine spl_empty h1 (no_back (nf_mid (h1.1 ▸ hn)) (fun e he => hz e (by rw [h1.1]; simp [he])) (tn_of_ring h2 g2))
theorem rep_at (l : List Int) : ∀ n i, i < n * l.length → (rep l n).getD i 0 = l.getD (i % l.length) 0
  | 0, i, h => by omega
  | n + 1, i, h => by
    show (rep l n ++ l).getD i 0 = _
    rw [Nat.succ_mul] at h
    rw [List.getD_eq_getElem?_getD]
    by_cases q : i < n * l.length
    · rw [List.getElem?_append_left (by rw [rep_len]; exact q), ← List.getD_eq_getElem?_getD, rep_at l n i q]
    · rw [List.getElem?_append_right (by rw [rep_len]; omega), rep_len, ← List.getD_eq_getElem?_getD]
      have e : i = (i - n * l.length) + n * l.length := by omega
      have e2 : i % l.length = i - n * l.length := by
        rw [e, Nat.add_mul_mod_self_right, Nat.mod_eq_of_lt (by omega)]
        omega
      rw [e2]
theorem sq_rep (l : List Int) (n : Nat) : sq (rep l (n + 1)) = sq l := by
  funext i
  unfold sq
  by_cases hn : l = []
  · subst hn; rw [rep_nil]
  · have hp : 0 < l.length := List.length_pos_iff.mpr hn
    have : 0 < (n + 1) * l.length := Nat.mul_pos (by omega) hp
    rw [rep_at l (n + 1) _ (by rw [rep_len]; exact Nat.mod_lt _ this), rep_len, Nat.mod_mod_of_dvd _ ⟨n + 1, Nat.mul_comm _ _⟩]
theorem ring_rep {m r : List Int} (h : Ring m r) (n : Nat) : Ring (rep m (n + 1)) (rep r (n + 1)) := by
  obtain ⟨h1, s, h2, h3⟩ := h
  refine ⟨by rw [rep_len, rep_len, h1], s, ?_, fun i => ?_⟩
  · rw [sq_rep]; exact h2
  · rw [sq_rep, sq_rep]; exact h3 i
theorem rep_ends {m : List Int} (h : Cr m) (n : Nat) : Cr (rep m (n + 1)) := by
  obtain ⟨t, z, e⟩ := snoc_of h.1
  have hz : m.getLast? = some z := by rw [e]; exact last_snoc _ _
  obtain ⟨p, hp⟩ : ∃ p, m.head? = some p := by
    cases m with
    | nil => exact absurd rfl h.1
    | cons a b => exact ⟨a, rfl⟩
  refine ⟨fun q => ?_, fun x y hx hy => ?_⟩
  · have := head_rep hp n
    rw [q] at this
    cases this
  · rw [last_rep hz n] at hx
    rw [head_rep hp n] at hy
    cases hx
    cases hy
    exact h.2 z p hz hp
theorem ringw_rep {w r : List Int} (hw : Nf w) (h : RingW w r) (n : Nat) : RingW (red (rep w (n + 1))) (rep r (n + 1)) := by
  obtain ⟨c, m, h1, h2⟩ := h
  by_cases hn : w = []
  · obtain ⟨rfl, rfl⟩ := h1.2.1 hn
    subst hn
    refine ⟨[], [], by rw [rep_nil]; exact spl_nil, ?_⟩
    have := ring_rep h2 n
    rw [rep_nil] at this
    exact this
  · have hm := h1.2.2 hn
    have e := red_pow (h1.1 ▸ hw) hm.1 hm.2 n
    rw [← h1.1] at e
    rw [e]
    exact ⟨c, rep m (n + 1), spl_of rfl (rep_ends hm n), ring_rep h2 n⟩
theorem cr_rot {m : List Int} (hn : Nf m) (h : Cr m) (k : Nat) (hk : k < m.length) : Nf (rot m k) ∧ Cr (rot m k) := by
  unfold rot
  have e := List.take_append_drop k m
  have hb : m.drop k ≠ [] := fun q => by have := congrArg List.length q; rw [List.length_drop] at this; simp at this; omega
  generalize m.take k = a at e
  generalize m.drop k = b at e hb
  subst e
  cases a with
  | nil => rw [List.append_nil]; exact ⟨hn, h⟩
  | cons p a =>
    obtain ⟨t, z, rfl⟩ := snoc_of hb
    refine ⟨nf_join (nf_back hn) (nf_front hn) fun x y hx hy => ?_, by simp, fun x y hx hy => ?_⟩
    · exact h.2 x y (by rw [List.getLast?_append, hx]; rfl) hy
    · rw [List.getLast?_append] at hx
      have hy : (t ++ [z]).head? = some y := by
        rw [List.head?_append] at hy
        cases t with
        | nil => exact hy
        | cons u v => exact hy
      refine nf_jn hn ?_ hy
      cases q : (p :: a).getLast? with
      | none => cases a <;> simp at q
      | some v => rw [q] at hx; exact hx
theorem ring_is {m r : List Int} (h : Ring m r) : m = [] ∧ r = [] ∨ ∃ k, k < m.length ∧ r = rot m k := by
  by_cases hn : m.length = 0
  · have e1 : m = [] := List.eq_nil_of_length_eq_zero hn
    exact .inl ⟨e1, List.eq_nil_of_length_eq_zero (h.1.trans hn)⟩
  · obtain ⟨k, hk, g⟩ := exists_min (sq m) m.length (by omega)
    exact .inr ⟨k, hk, ring_uniq h (ring_rot (by omega) (least_min (per_sq m) (by omega) g))⟩
theorem mem_rot {m : List Int} {k : Nat} {e : Int} (h : e ∈ rot m k) : e ∈ m := by
  unfold rot at h
  rw [List.mem_append] at h
  exact h.elim List.mem_of_mem_drop List.mem_of_mem_take
/-- the ring of a word is a word, and its own ring -/
theorem ringw_self {w r : List Int} (hw : Nf w) (h : RingW w r) : Nf r ∧ RingW r r ∧ (∀ e, e ∈ r → e ∈ w) ∧ r.length ≤ w.length := by
  obtain ⟨c, m, h1, h2⟩ := h
  have hl := congrArg List.length h1.1
  rw [List.length_append, List.length_append] at hl
  have hl2 := h2.1
  rcases ring_is h2 with ⟨rfl, rfl⟩ | ⟨k, hk, rfl⟩
  · exact ⟨True.intro, ⟨[], [], spl_nil, h2⟩, (fun e he => nomatch he), Nat.zero_le _⟩
  · have hn : w ≠ [] := fun q => by
      obtain ⟨_, rfl⟩ := h1.2.1 q
      simp at hk
    obtain ⟨e1, e2⟩ := cr_rot (nf_mid (h1.1 ▸ hw)) (h1.2.2 hn) k hk
    exact ⟨e1, ⟨[], _, spl_of (by simp [opp]) e2, h2.self⟩, fun e he => by rw [h1.1]; simp [mem_rot he], by omega⟩
/-- the word between -/
theorem between_ok {one other c1 m1 c2 m2 : List Int} {k : Nat} (s1 : Spl one c1 m1) (s2 : Spl other c2 m2) (hn : Nf other) (h : rot m1 k = m2) :
    red (red (c2 ++ opp (m1.take k) ++ opp c1) ++ one ++ opp (red (c2 ++ opp (m1.take k) ++ opp c1))) = other := by
  generalize eA : c2 ++ opp (m1.take k) ++ opp c1 = A
  have : red (red A ++ one ++ opp (red A)) = red (A ++ one ++ opp A) := by
    rw [opp_red, red_app_r, List.append_assoc, red_app_l, ← List.append_assoc]
  rw [this, ← eA, s1.1, ← red_id hn, s2.1, ← h]
  have e := (List.take_append_drop k m1).symm
  unfold rot
  generalize m1.take k = t at e ⊢
  generalize m1.drop k = d at e ⊢
  rw [e]
  refine red_congr ?_
  have n0 : Nf (act c2 []) := Nf.of_act c2
  simp only [opp_app, opp_opp, act_app]
  rw [opp_act c1 (act_nf _ n0), opp_act t n0, opp_act c1 (act_nf _ n0)]
theorem rot_rot {m : List Int} {i j : Nat} {u : List Int} (hm : m ≠ []) (hi : i < m.length) (hj : j < u.length) (hl : u.length = m.length) (h : rot m i = rot u j) (k : Nat) (hk : (k : Int) = ((i : Int) - (j : Int)) % (m.length : Int)) : rot m k = u := by
  have hp : 0 < m.length := List.length_pos_iff.mpr hm
  have hk2 : k < m.length := by
    have := Int.emod_lt_of_pos ((i : Int) - j) (show (0 : Int) < m.length by omega)
    omega
  have hk3 : k + j = i ∨ k + j = i + m.length := by
    by_cases q : j ≤ i
    · left
      have : ((i : Int) - j) % (m.length : Int) = (i : Int) - j := Int.emod_eq_of_lt (by omega) (by omega)
      omega
    · right
      have : ((i : Int) - j) % (m.length : Int) = (i : Int) - j + m.length := by
        rw [← Int.add_emod_right]
        exact Int.emod_eq_of_lt (by omega) (by omega)
      omega
  have hs : ∀ z, sq m (i + z) = sq u (j + z) := fun z => by rw [← rot_sq (by omega) z, h, rot_sq (by omega) z]
  have hs2 : ∀ z, sq m (k + j + z) = sq u (j + z) := fun z => by
    rcases hk3 with q | q
    · rw [q]; exact hs z
    · rw [q, show i + m.length + z = i + z + m.length by omega, per_sq m]; exact hs z
  refine list_ext (by rw [rot_len, hl]) fun z hz => ?_
  rw [rot_len] at hz
  rw [rot_at (by omega) hz, ← sq_self (by omega : z < u.length)]
  by_cases q : j ≤ z
  · have := hs2 (z - j)
    rw [show k + j + (z - j) = k + z by omega, show j + (z - j) = z by omega] at this
    exact this
  · have := hs2 (z + m.length - j)
    rw [show k + j + (z + m.length - j) = k + z + m.length by omega, per_sq m, show j + (z + m.length - j) = z + u.length by omega, per_sq u] at this
    exact this
end Rg

namespace N0
open PySem PySem.Spec PyProof.Rows L2 HT
/-! the least of a list of tuples of numbers -/
section
variable {K : PySem.W.Frag} {X : Cx}
def tupD (ns : List Int) : PyData := .tuple (ns.map .int)
def rMinT (K : PySem.W.Frag) : List V → Hp → VK → Prop := fun vs H Q => ∃ (a : Addr) (xs : List V) (ts : List (List Int)), vs = [V.ref a] ∧ SqL K H a xs ∧ DpAll K H xs (ts.map tupD) ∧ 0 < ts.length ∧
  ∀ (i : Nat) (v : V) (ns : List Int), xs[i]? = some v → ts[i]? = some ns → (∀ ms, ms ∈ ts → HT.lexLt ms ns = false) → Q v H
theorem listLt_lex : ∀ x y : List Int, PySem.W.listLt x y = HT.lexLt x y
  | [], [] => rfl
  | [], _ :: _ => rfl
  | _ :: _, [] => rfl
  | x :: xs, y :: ys => by
    show (if x = y then PySem.W.listLt xs ys else decide (x < y)) = if x = y then HT.lexLt xs ys else decide (x < y)
    rw [listLt_lex]
theorem minOf_spec {α : Type} [DecidableEq α] [PySem.W.DatumOrd α] : ∀ (x : α) (xs : List α), PySem.W.minOf x xs ∈ x :: xs := fun x xs => by
  unfold PySem.W.minOf
  induction xs generalizing x with
  | nil => exact List.mem_singleton_self x
  | cons y ys ih =>
    rw [List.foldl_cons]
    by_cases h : PySem.W.DatumOrd.lt y x = true
    · rw [if_pos h]
      exact List.mem_cons_of_mem _ (ih y)
    · rw [if_neg h]
      have := ih x
      rw [List.mem_cons] at this ⊢
      rcases this with q | q
      · exact .inl q
      · exact .inr (List.mem_cons_of_mem _ q)
theorem lex_irr : ∀ x : List Int, HT.lexLt x x = false
  | [] => rfl
  | x :: xs => by rw [HT.lexLt_cons, if_pos rfl, lex_irr]
theorem lex_asy : ∀ x y : List Int, HT.lexLt x y = true → HT.lexLt y x = false
  | [], [], h => by cases h
  | [], _ :: _, _ => rfl
  | _ :: _, [], h => by cases h
  | x :: xs, y :: ys, h => by
    rw [HT.lexLt_cons] at h ⊢
    by_cases q : x = y
    · rw [if_pos q] at h
      rw [if_pos q.symm]
      exact lex_asy xs ys h
    · rw [if_neg q] at h
      rw [if_neg (Ne.symm q)]
      have := of_decide_eq_true h
      exact decide_eq_false (by omega)
theorem lex_ntr : ∀ x y z : List Int, HT.lexLt x y = false → HT.lexLt y z = false → HT.lexLt x z = false
  | [], [], z, _, h => h
  | [], _ :: _, _, h, _ => by cases h
  | _ :: _, _, [], _, _ => rfl
  | _ :: _, [], _ :: _, _, h => by cases h
  | x :: xs, y :: ys, z :: zs, h1, h2 => by
    rw [HT.lexLt_cons] at h1 h2 ⊢
    by_cases q1 : x = y
    · rw [if_pos q1] at h1
      by_cases q2 : y = z
      · rw [if_pos q2] at h2
        rw [if_pos (q1.trans q2)]
        exact lex_ntr xs ys zs h1 h2
      · rw [if_neg q2] at h2
        subst q1
        rw [if_neg q2]
        exact h2
    · rw [if_neg q1] at h1
      have := of_decide_eq_false h1
      by_cases q2 : y = z
      · subst q2
        rw [if_neg q1]
        exact h1
      · rw [if_neg q2] at h2
        have := of_decide_eq_false h2
        rw [if_neg (by omega)]
        exact decide_eq_false (by omega)
theorem min_fold (lt : List Int → List Int → Bool) (hl : lt = HT.lexLt) : ∀ (x : List Int) (xs : List (List Int)), (∀ m, m ∈ x :: xs → HT.lexLt m (xs.foldl (fun a y => if lt y a = true then y else a) x) = false) := by
  subst hl
  intro x xs
  induction xs generalizing x with
  | nil =>
    intro m hm
    rw [List.mem_singleton] at hm
    subst hm
    exact lex_irr m
  | cons y ys ih =>
    intro m hm
    rw [List.foldl_cons]
    by_cases h : HT.lexLt y x = true
    · rw [if_pos h]
      rcases List.mem_cons.mp hm with q | q
      · subst q
        exact lex_ntr _ _ _ (lex_asy _ _ h) (ih y y List.mem_cons_self)
      · exact ih y m q
    · rw [if_neg h]
      have h : HT.lexLt y x = false := by cases e : HT.lexLt y x with | true => exact absurd e h | false => rfl
      rcases List.mem_cons.mp hm with q | q
      · subst q
        exact ih m m List.mem_cons_self
      · rcases List.mem_cons.mp q with q | q
        · subst q
          exact lex_ntr _ _ _ h (ih x x List.mem_cons_self)
        · exact ih x m (List.mem_cons_of_mem _ q)
theorem map_int_inj : ∀ x y : List Int, x.map PyData.int = y.map PyData.int → x = y
  | [], [], _ => rfl
  | [], _ :: _, h => nomatch h
  | _ :: _, [], h => nomatch h
  | x :: xs, y :: ys, h => by
    rw [List.map_cons, List.map_cons] at h
    injection h with h1 h2
    injection h1 with h3
    rw [h3, map_int_inj xs ys h2]
theorem minOf_items (x : List Int) (xs : List (List Int)) : (PySem.W.minOf (PySem.W.Tup.mk x) (xs.map PySem.W.Tup.mk)).items = xs.foldl (fun a y => if HT.lexLt y a = true then y else a) x := by
  unfold PySem.W.minOf
  induction xs generalizing x with
  | nil => rfl
  | cons y ys ih =>
    rw [List.map_cons, List.foldl_cons, List.foldl_cons]
    have e : PySem.W.DatumOrd.lt (PySem.W.Tup.mk y) (PySem.W.Tup.mk x) = HT.lexLt y x := listLt_lex y x
    rw [e]
    by_cases h : HT.lexLt y x = true
    · rw [if_pos h, if_pos h]; exact ih y
    · rw [if_neg h, if_neg h]; exact ih x
theorem canLay_tup (ns : List Int) : (tupD ns).canLay0 = true := canLay_ints ns
theorem vals_at : ∀ {xs : List V} {us : List Value} {i : Nat} {u : Value}, Vals xs us → us[i]? = some u → ∃ v, xs[i]? = some v ∧ RelV v u := fun {xs us i u} h hu => by
  induction h generalizing i with
  | nil => cases hu
  | cons r t ih =>
    cases i with
    | zero => cases hu; exact ⟨_, rfl, r⟩
    | succ i => exact ih hu
theorem cr_minT (hc : X.calm = true) (hu : X.A.units + 64 < cLine) : CallR X (.builtin "min") (rMinT X.K) := by
  intro pins s σ H vs us Q I r h
  obtain ⟨a, xs, ts, rfl, hs, hd, hp, q⟩ := h
  obtain ⟨its, rv, hl, _⟩ := I.list hs
  rw [Vals.ref1 r]
  obtain ⟨as, ra⟩ := Dp.readsAll I _ _ _ hd rv
  cases ts with
  | nil => exact absurd hp (Nat.lt_irrefl _)
  | cons t0 ts =>
    have e0 : (t0 :: ts).map tupD = ((PySem.W.Tup.mk t0) :: ts.map PySem.W.Tup.mk).map PySem.W.Datum.toD := by
      rw [List.map_cons, List.map_cons, List.map_map]
      rfl
    refine PySem.W.min_list_datum (α := PySem.W.Tup Int) (I.ok.hd hc) hl.isList ⟨as, by rw [← e0]; exact ra⟩ (by show X.A.units + 1 + (0 + 1) < cLine; omega) fun i v h' tk hi hv hk => ?_
    obtain ⟨y, hy, ry⟩ := vals_at rv (by rw [← Array.getElem?_toList] at hi; exact hi)
    obtain ⟨bs, rb, hlt, _, _⟩ := PySem.W.readsAll_atA (vs := its.toArray) ra i v hi
    obtain ⟨cs, rc⟩ := hv
    rw [List.length_map] at hlt
    have hg : ((t0 :: ts).map tupD).getD i .none = tupD ((t0 :: ts).getD i []) := by
      rw [List.getD_eq_getElem?_getD, List.getD_eq_getElem?_getD, List.getElem?_map, List.getElem?_eq_getElem hlt]
      rfl
    rw [hg] at rb
    have hu := PySem.SeqAt.Reads.unique _ _ v _ _ (canLay_tup _) (Reads.keeps hk rb) rc
    have hm := minOf_items t0 ts
    refine ⟨y, H, I.kept hk, ry, q i y ((t0 :: ts).getD i []) hy (by rw [List.getD_eq_getElem?_getD, List.getElem?_eq_getElem hlt]; rfl) fun ms hms => ?_⟩
    have he : (t0 :: ts).getD i [] = ts.foldl (fun a y => if HT.lexLt y a = true then y else a) t0 := by
      have h2 : tupD ((t0 :: ts).getD i []) = tupD (PySem.W.minOf (PySem.W.Tup.mk t0) (ts.map PySem.W.Tup.mk)).items := hu
      rw [hm] at h2
      injection h2 with h3
      exact map_int_inj _ _ h3
    rw [he]
    exact min_fold _ rfl t0 ts ms hms
theorem kcr_minT (hc : X.calm = true) (hu : X.A.units + 64 < cLine) (h : X.K = K := by rfl) : CallR X (.builtin "min") (rMinT K) := h ▸ cr_minT hc hu
end
end N0

namespace N0
open PySem PySem.Spec PyProof.Rows L2 HT
/-! displays of data, and statements that compare them -/
section
variable {K : PySem.W.Frag} {H H1 : Hp} {σ : L2.St}
theorem same_lst {a : Addr} {xs : List V} (e : Same H H1) (h : SqL K H a xs) : SqL K H1 a xs := (Rs.same (S := none) True.intro e).lst (fun q => nomatch q) h
mutual
theorem dp_same (e : Same H H1) : ∀ (d : PyData) (v : V), Dp K H v d → Dp K H1 v d
  | .none, _, .non => .non
  | .bool _, _, .bl b => .bl b
  | .int _, _, .int i => .int i
  | .str _, _, .str x => .str x
  | .list ds, _, .lst h t => .lst (same_lst e h) (dpa_same e ds _ t)
  | .tuple ds, _, .tup h t => .tup (same_tup e h) (dpa_same e ds _ t)
theorem dpa_same (e : Same H H1) : ∀ (ds : List PyData) (vs : List V), DpAll K H vs ds → DpAll K H1 vs ds
  | [], _, .nil => .nil
  | d :: ds, _, .cons h t => .cons (dp_same e d _ h) (dpa_same e ds _ t)
end
theorem dpa_len : ∀ {vs : List V} {ds : List PyData}, DpAll K H vs ds → vs.length = ds.length
  | _, _, .nil => rfl
  | _, _, .cons _ t => congrArg (· + 1) (dpa_len t)
theorem dp_int_inv {v : V} {i : Int} (h : Dp K H v (.int i)) : v = .int i := by cases h; rfl
theorem dpa_ints : ∀ {vs : List V} {ns : List Int}, DpAll K H vs (ns.map .int) → vs = ns.map V.int
  | vs, [], h => by cases h; rfl
  | vs, n :: ns, h => by
    cases h with
    | cons h t => rw [dp_int_inv h, dpa_ints t]; rfl
abbrev IsD (K : PySem.W.Frag) (d : PyData) : V → Hp → Prop := fun v H => Dp K H v d
def EvD (K : PySem.W.Frag) (ta : TA) (σ : L2.St) (H : Hp) (ds : List PyData) : Prop := ∀ H1, Same H H1 → ∀ Q : List V → Hp → Prop, (∀ vs H2, Same H1 H2 → DpAll K H2 vs ds → Q vs H2) → ta σ H1 Q
theorem ed0 : EvD K tNil σ H [] := fun H1 e Q q => q [] H1 (Same.refl _) .nil
theorem edc {te : TE} {ta : TA} {d : PyData} {ds : List PyData} (h : EvS te σ H (IsD K d)) (h2 : EvD K ta σ H ds) : EvD K (tCons te ta) σ H (d :: ds) := fun H1 e Q q =>
  h H1 e _ fun v H2 e2 hv => h2 H2 (Same.trans e e2) _ fun vs H3 e3 hvs => q _ _ (Same.trans e2 e3) (.cons (dp_same e3 _ _ hv) hvs)
theorem es_tup {ta : TA} {ds : List PyData} (h : EvD K ta σ H ds) (hl : ds.length ≤ 1000) : EvS (tTup ta) σ H (IsD K (.tuple ds)) := fun H1 e Q q =>
  h H1 e _ fun vs H2 e2 hvs => ⟨Nat.le_of_lt (small1000 (by rw [dpa_len hvs]; omega)), fun p hp => q _ _ (Same.trans e2 (new_same hp)) (.tup (tup_of upd_same) (dpa_same (new_same hp) _ _ hvs))⟩
theorem es_lst {ta : TA} {ds : List PyData} (h : EvD K ta σ H ds) (hl : ds.length ≤ 1000) : EvS (tLst ta) σ H (IsD K (.list ds)) := fun H1 e Q q =>
  h H1 e _ fun vs H2 e2 hvs => ⟨Nat.le_of_lt (small1000 (by rw [dpa_len hvs]; omega)), fun p hp => q _ _ (Same.trans e2 (new_same hp)) (.lst (lst_of upd_same) (dpa_same (new_same hp) _ _ hvs))⟩
theorem es_int (i : Int) : EvS (tC (.int i)) σ H (IsD K (.int i)) := evs_c fun _ _ => .int i
theorem es_bl (b : Bool) : EvS (tC (.bl b)) σ H (IsD K (.bool b)) := evs_c fun _ _ => .bl b
theorem es_neg (i : Int) : EvS (tUn (rU fun i => V.int (-i)) (tC (.int i))) σ H (IsD K (.int (-i))) := fun H1 e Q q => ⟨i, rfl, q _ _ (Same.refl _) (.int (-i))⟩
/-- a display of numbers is a row of numbers -/
theorem es_row {te : TE} (ns : List Int) (h : EvS te σ H (IsD K (.tuple (ns.map .int)))) : EvS te σ H (IsI K ns) := fun H1 e Q q => h H1 e _ fun v H2 e2 hv => by
  cases hv with
  | tup ha hd => rw [dpa_ints hd] at ha; exact q _ _ e2 ⟨_, rfl, ha⟩
theorem row_es {te : TE} {ns : List Int} (h : EvS te σ H (IsI K ns)) : EvS te σ H (IsD K (.tuple (ns.map .int))) := fun H1 e Q q => h H1 e _ fun v H2 e2 ⟨a, ev, ha⟩ => q v H2 e2 (ev ▸ dp_tup ha)
theorem es_var {i : Nat} {v : V} {d : PyData} (hv : σ[i]? = some (some v)) (h : Dp K H v d) : EvS (tVar i) σ H (IsD K d) := evs_var hv fun H1 e => dp_same e _ _ h
theorem ifne_seq {ta tb : TE} {t x : TS} {D : Ends} {d e : PyData} (h1 : EvS ta σ H (IsD K d)) (h2 : EvS tb σ H (IsD K e)) (s1 : SeqAt.shaped d = true) (s2 : SeqAt.shaped e = true) (he : PyData.eqv d e = true) (rest : ∀ H', Same H H' → x D σ H') :
    tSeq (tIfS (tTest (tOp (rNeD K) ta tb)) t tNext) x D σ H :=
  h1 H (Same.refl _) _ fun v H1 e1 hv => h2 H1 e1 _ fun u H2 e2 hu => ⟨d, e, dp_same e2 _ _ hv, hu, s1, s2, _, rfl, by rw [he]; exact rest _ (Same.trans e1 e2)⟩
theorem ifne2_seq {ta tb tc td : TE} {t x : TS} {D : Ends} {d e d' e' : PyData} (h1 : EvS ta σ H (IsD K d)) (h2 : EvS tb σ H (IsD K e)) (s1 : SeqAt.shaped d = true) (s2 : SeqAt.shaped e = true) (he : PyData.eqv d e = true)
    (g1 : EvS tc σ H (IsD K d')) (g2 : EvS td σ H (IsD K e')) (q1 : SeqAt.shaped d' = true) (q2 : SeqAt.shaped e' = true) (qe : PyData.eqv d' e' = true) (rest : ∀ H', Same H H' → x D σ H') :
    tSeq (tIfS (tOr (tTest (tOp (rNeD K) ta tb)) (tTest (tOp (rNeD K) tc td))) t tNext) x D σ H :=
  h1 H (Same.refl _) _ fun v H1 e1 hv => h2 H1 e1 _ fun u H2 e2 hu => ⟨d, e, dp_same e2 _ _ hv, hu, s1, s2, _, rfl, by
    rw [he]
    exact g1 H2 (Same.trans e1 e2) _ fun v' H3 e3 hv' => g2 H3 (Same.trans (Same.trans e1 e2) e3) _ fun u' H4 e4 hu' => ⟨d', e', dp_same e4 _ _ hv', hu', q1, q2, _, rfl, by rw [qe]; exact rest _ (Same.trans (Same.trans (Same.trans e1 e2) e3) e4)⟩⟩
theorem asg_seq {te : TE} {i : Nat} {x : TS} {D : Ends} {P : V → Hp → Prop} (h : EvS te σ H P) (rest : ∀ v H', Same H H' → P v H' → x D (σ.set i (some v)) H') : tSeq (tAsg te (gName i)) x D σ H :=
  h H (Same.refl _) _ fun v H1 e1 hv => rest v H1 e1 hv
/-- a condition of which it is known what it gives -/
def EvB (t : TT) (σ : L2.St) (H : Hp) (b : Bool) : Prop := ∀ H1, Same H H1 → ∀ Q : Bool → Hp → Prop, (∀ H2, Same H1 H2 → Q b H2) → t σ H1 Q
theorem ifno_seq {c : TT} {t x : TS} {D : Ends} (h : EvB c σ H false) (rest : ∀ H', Same H H' → x D σ H') : tSeq (tIfS c t tNext) x D σ H := h H (Same.refl _) _ fun H2 e => rest H2 e
theorem eb_or {c d : TT} (h : EvB c σ H false) (g : EvB d σ H false) : EvB (tOr c d) σ H false := fun H1 e Q q => h H1 e _ fun H2 e2 => g H2 (Same.trans e e2) _ fun H3 e3 => q H3 (Same.trans e2 e3)
theorem eb_b {te : TE} {b : Bool} (h : EvS te σ H fun v _ => v = .bl b) : EvB (tB te) σ H b := fun H1 e Q q => h H1 e _ fun v H2 e2 ev => ⟨b, ev, q H2 e2⟩
theorem knotIn {X : Cx} (h : X.K = K := by rfl) : OpR X (compareOp .NotIn) (rIn K true) := h ▸ op_notIn_seq
end
end N0

namespace N0
open PySem PySem.Spec PyProof.Rows L2 HT GenW
/-! generators: if, for -/
section
variable {X : Cx}
def tGIf (c : TT) (t u : TGn) : TGn := fun D ys σ H => c σ H fun b H1 => if b = true then t D ys σ H1 else u D ys σ H1
theorem gs_if {test : Expr} {a b : List Stmt} {pos : Pos} {tc : TT} {t u : TGn} (hc : PT X test tc) (ha : GSs X a t) (hb : GSs X b u) : GS X (.If test a b pos) (tGIf tc t u) := by
  refine ⟨fun A S ip R n ys s₀ c fs K J gd lv s σ H D g hn k hI ht => ?_⟩
  obtain ⟨acc, cc, r, I⟩ := hI
  rw [exec_If]
  show Seg _ _ _ _ _ _ _ (.at pos fun _ => ((isTrue test X.env (eval test X.env)) >>= fun z => if z = true then execs a X.env else execs b X.env).wrap K J gd lv) _ _
  refine seg_at ?_
  rw [Sem.bind_eq_wrap', Sem.wrap_wrap]
  refine seg_wrap ?_
  rw [g.over]
  refine wpAny_mono (hc.run _ s σ H _ I ht) (fun z s' hz => ?_) fun x s' hx => k.exc n s₀ x s' hx
  obtain ⟨H2, I2, q2⟩ := hz
  cases z with
  | true =>
    have q2 : t D ys σ H2 := q2
    exact ha.run A S ip R n ys s₀ c fs K J gd lv s' σ H2 D g hn k ⟨acc, cc, r, I2⟩ q2
  | false =>
    have q2 : u D ys σ H2 := q2
    exact hb.run A S ip R n ys s₀ c fs K J gd lv s' σ H2 D g hn k ⟨acc, cc, r, I2⟩ q2
end
section
variable {prog : Program} {w : World} {A : Around} {R : GenEnd} {Y : Protocol} {n : Nat} {s₀ : Shared} {fs : List Frame} {s : Shared} {env : Env}
theorem seg_forLoop {target : Expr} {it : Value} {body : List Stmt}
    (h : wpAny (model prog w) (A.over (.forLoop target it body [] env) fs) (pyNext it) (fun r s1 => match r with
        | none => Seg (model prog w) A R Y n s₀ (.forLoop target it body [] env) (.pure (.again (.block [] env))) fs s1
        | some v => wpAny (model prog w) (A.over (.forLoop target it body [] env) fs) (letOwnedTupleGo target it v) (fun _ s2 => wpAny (model prog w) (A.over (.forLoop target it body [] env) fs) (assign target env v) (fun _ s3 =>
          Seg (model prog w) A R Y n s₀ (.forLoop target it body [] env) ((execs body env).wrap (fun f => match f with
            | .next | .cont => .pure (.again (.forLoop target it body [] env))
            | .brk => .pure (.done .next)
            | .ret v => .pure (.done (.ret v))) (fun e => (do noteFrame e env; theTreesLotGoes e : Sem Unit).wrap (fun _ => .raise e) .raise id id) id id) fs s3)
          (fun x s' => Seg (model prog w) A R Y n s₀ (.forLoop target it body [] env) ((do noteFrame x env; theTreesLotGoes x : Sem Unit).wrap (fun _ => .raise x) .raise id id) fs s') s2)
          (fun x s' => Seg (model prog w) A R Y n s₀ (.forLoop target it body [] env) ((do noteFrame x env; theTreesLotGoes x : Sem Unit).wrap (fun _ => .raise x) .raise id id) fs s') s1)
      (fun x s' => Seg (model prog w) A R Y n s₀ (.forLoop target it body [] env) ((do noteFrame x env; theTreesLotGoes x : Sem Unit).wrap (fun _ => .raise x) .raise id id) fs s') s) :
    Seg (model prog w) A R Y n s₀ (.forLoop target it body [] env) ((model prog w).den (.forLoop target it body [] env)) fs s := by
  show Seg _ A R Y n s₀ _ ((forTurn target it body [] env).onRaise (fun x => do noteFrame x env; theTreesLotGoes x)) fs s
  unfold forTurn
  rw [Sem.onRaise_eq_wrap, Sem.bind_eq_wrap', Sem.wrap_wrap]
  refine seg_wrap (wpAny_standAt ?_)
  rw [Sem.bind_eq_wrap', Sem.wrap_wrap]
  refine seg_wrap (wpAny_onRaise (wpAny_mono h (fun r s1 h1 => ?_) fun x s' hx => wpAny_standAt ?_))
  · cases r with
    | none => exact h1
    | some v =>
      dsimp only at h1 ⊢
      rw [Sem.bind_eq_wrap', Sem.wrap_wrap]
      refine seg_wrap (wpAny_mono h1 (fun _ s2 h2 => ?_) fun x s' hx => ?_)
      · rw [Sem.bind_eq_wrap', Sem.wrap_wrap]
        refine seg_wrap (wpAny_mono h2 (fun _ s3 h3 => ?_) fun x s' hx => ?_)
        · rw [Sem.bind_eq_wrap', Sem.wrap_wrap]
          rw [Sem.wrap_congr (execs body env) _ _ (K' := fun f => match f with
            | .next | .cont => .pure (.again (.forLoop target it body [] env))
            | .brk => .pure (.done .next)
            | .ret v => .pure (.done (.ret v))) (H' := (fun e => (do noteFrame e env; theTreesLotGoes e : Sem Unit).wrap (fun _ => .raise e) .raise id id))
            (fun f => by cases f <;> rfl)
            (fun e => by first | exact Sem.bind_eq_wrap _ _ | (show (do noteFrame e env; theTreesLotGoes e : Sem Unit).bind (fun _ => .raise e) = _; rw [Sem.bind_eq_wrap]))]
          exact h3
        · rw [← Sem.bind_eq_wrap] at hx
          exact hx
      · rw [← Sem.bind_eq_wrap] at hx
        exact hx
  · rw [← Sem.bind_eq_wrap] at hx
    exact hx
end
section
variable {X : Cx}
def tGFor (wi : TI) (gt : TG) (tb : TGn) : TGn := fun D ys σ H => wi σ H fun J H1 => ∃ W : Nat → Nat → List V → L2.St → Hp → Prop, (∃ m, W 0 m ys σ H1) ∧ ∀ i m ys σ H, W i m ys σ H →
  (J.stop i H ∧ D.nx ys σ H) ∨ (J.go i H ∧ ∃ N : List V → L2.St → Hp → Prop, (∀ ys' σ' H', N ys' σ' H' → ∃ m', m' < m ∧ W (i + 1) m' ys' σ' H') ∧ ∀ x H', J.yld i H x H' → gt x σ H' fun σ2 H2 => tb { D with nx := N, ct := N, bk := D.nx } ys σ2 H2)
theorem gs_for {tg iter : Expr} {body : List Stmt} {pos : Pos} {wi : TI} {gt : TG} {tb : TGn} (hp : PassesOwn (model X.prog X.w) X.A X.env X.xe) (hc : X.calm = true) (hi : PI X tg iter wi) (hg : PG X tg gt) (hb : GSs X body tb)
    (hs : ∀ x, foldedSetIterable iter X.env x = pure x := by intro _; rfl) : GS X (.For tg iter body [] pos) (tGFor wi gt tb) := by
  refine ⟨fun A S ip R n ys s₀ c fs K J gd lv s σ H D g hn k hI ht => ?_⟩
  obtain ⟨acc, cc, r, I⟩ := hI
  rw [exec_For]
  show Seg _ _ _ _ _ _ _ (.at pos fun _ => ((eval iter X.env) >>= fun v => (foldedSetIterable iter X.env v) >>= fun x => (standAt iter.pos >>= fun _ => (holding [x] (pyIter x) >>= fun it => runOwn (.forLoop tg it body [] X.env) X.env))).wrap K J gd lv) _ _
  refine seg_at ?_
  rw [Sem.bind_eq_wrap', Sem.wrap_wrap]
  refine seg_wrap ?_
  rw [g.over]
  refine wpAny_mono (hi.run _ s σ H _ I ht) (fun v s1 h1 => ?_) fun x s' hx => k.exc n s₀ x s' hx
  rw [hs v]
  show Seg _ _ _ _ _ _ _ (.at iter.pos fun _ => ((holding [v] (pyIter v)) >>= fun it => runOwn (.forLoop tg it body [] X.env) X.env).wrap K J gd lv) _ _
  refine seg_at ?_
  rw [Sem.bind_eq_wrap', Sem.wrap_wrap]
  refine seg_wrap ?_
  rw [g.over]
  refine wpAny_holding (wpAny_mono h1 (fun itv s2 h2 => ?_) fun x s' hx => k.exc n s₀ x s' hx)
  obtain ⟨it, fp, tn, Jt, H2, rfl, I2, T, st2, f2, W, ⟨m0, w0⟩, turn⟩ := h2
  refine seg_call fun p => ?_
  have gl := fun (kk : Result → Sem PySem.Fin) => gc_loop (k := kk) (c' := .forLoop tg (.ref it) body [] X.env) (l := lv []) (kp := []) (p := p) g rfl rfl
  have stat : ∀ {acc' : Array Value} {cc' : Nat} {H' : Hp}, (∀ b ∈ fp, H' b = none) → ∀ b ∈ fp, FpOk X ((S, lstObj acc' cc') :: ip) H' b := fun {acc' cc' H'} hn b hb => by
    obtain ⟨_, y1, y2, y3, y4, y5⟩ := f2 b hb
    refine ⟨hn b hb, y1, y2, y3, y4, fun q hq => ?_⟩
    rcases List.mem_append.mp hq with hq | hq
    · exact y5 q (List.mem_append_left _ hq)
    · rcases List.mem_cons.mp hq with hq | hq
      · rw [hq]; exact y5 (S, lstObj acc cc) (List.mem_append_right _ List.mem_cons_self)
      · exact y5 q (List.mem_append_right _ (List.mem_cons_of_mem _ hq))
  have loop : ∀ (m n i : Nat) (ys : List V) (s₀ s : Shared) (σ : L2.St) (H : Hp), n + ys.length = sizeLine → W i m ys σ H → GI X S ip ys σ H s → tn i s.heap → (∀ b ∈ fp, H b = none) →
      Seg (model X.prog X.w) A R (GY X S) n s₀ (.forLoop tg (.ref it) body [] X.env) ((model X.prog X.w).den (.forLoop tg (.ref it) body [] X.env))
        (.ret (fun r => ((match r with | .ok f => (.pure f : Sem Flow) | .error e => .raise e).onRaise (cameBack X.env)).wrap K J gd lv) none (gd false) (lv []) c p [] :: fs) s := by
    intro m
    induction m using Nat.strongRecOn with
    | ind m ih =>
      intro n i ys s₀ s σ H hn w hI st fr
      have ee : ∀ (n : Nat) (s₀ : Shared) (x : Value) (s' : Shared), X.xe x s' → Seg (model X.prog X.w) A R (GY X S) n s₀ (.forLoop tg (.ref it) body [] X.env)
          ((do noteFrame x X.env; theTreesLotGoes x : Sem Unit).wrap (fun _ => .raise x) .raise id id)
          (.ret (fun r => ((match r with | .ok f => (.pure f : Sem Flow) | .error e => .raise e).onRaise (cameBack X.env)).wrap K J gd lv) none (gd false) (lv []) c p [] :: fs) s' := fun n s₀ x s' hx => by
        refine seg_wrap ?_
        rw [(gl _).over]
        refine wpAny_bind (wpAny_mono (hp x s' hx) (fun _ s'' hcb => wpAny_theTreesLotGoes ?_) fun y s'' hcb => ?_)
        · exact seg_leaf (.error x) (seg_cameBack g k hcb)
        · exact seg_leaf (.error y) (seg_cameBack g k hcb)
      refine seg_forLoop ?_
      rw [(gl _).over]
      obtain ⟨acc, cc, r, I⟩ := hI
      rcases turn i m ys σ H w with ⟨stop, qn⟩ | ⟨go, N, hN, step⟩
      · refine wpAny_mono (T.done X rfl rfl rfl hc i _ s σ H X.xe I (stat fr) st stop) (fun rr s4 h4 => ?_) fun x s' hx => ee n s₀ x s' hx
        obtain ⟨hr, I4⟩ := h4
        subst hr
        refine seg_again rfl ?_
        exact seg_leaf (.ok .next) (k.ok n ys s₀ s4 .next hn ⟨σ, H, ⟨acc, cc, r, I4⟩, qn⟩)
      · refine wpAny_mono (T.item X rfl rfl rfl hc i _ s σ H X.xe I (stat fr) st go) (fun rr s4 h4 => ?_) fun x s' hx => ee n s₀ x s' hx
        obtain ⟨u, hr, h4⟩ := h4
        subst hr
        refine wpAny_mono h4 (fun _ s5 h5 => ?_) fun x s' hx => ee n s₀ x s' hx
        obtain ⟨x, H5, I5, r5, y5, st5, fr5⟩ := h5
        have I5' := I5.pinned (stat fr5) (T.obj _ _ st5)
        refine wpAny_mono (hg.run _ s5 σ H5 x u _ I5' r5 (step x H5 y5)) (fun _ s6 h6 => ?_) fun x s' hx => ee n s₀ x s' hx
        obtain ⟨σ6, H6, I6, q6⟩ := h6
        have ipne : ∀ q ∈ ip ++ pinsAt fp s5.heap, q.1 ≠ S := fun q hq => by
          rcases List.mem_append.mp hq with hq | hq
          · exact g.ip q hq
          · obtain ⟨hb', _⟩ := of_pinsAt hq
            obtain ⟨_, _, _, _, _, y5⟩ := f2 q.1 hb'
            exact fun z => y5 _ (List.mem_append_right _ List.mem_cons_self) z.symm
        have g' : ∀ kk : Result → Sem PySem.Fin, GC X S (ip ++ pinsAt fp s5.heap) A (.forLoop tg (.ref it) body [] X.env) (.ret kk none (gd false) (lv []) c p [] :: fs) id := fun kk =>
          { gl kk with ip := ipne }
        refine hb.run A S (ip ++ pinsAt fp s5.heap) R n ys s₀ _ _ _ _ id id s6 σ6 H6 { D with nx := N, ct := N, bk := D.nx } (g' _) hn ⟨fun n' ys' s₀' s7 f hn' hs' => ?_, fun n' s₀' x s3 hx => ee n' s₀' x s3 hx⟩ ⟨acc, cc, r, I6⟩ q6
        have again : ∀ {σ7 : L2.St} {H7 : Hp}, GI X S (ip ++ pinsAt fp s5.heap) ys' σ7 H7 s7 → N ys' σ7 H7 → Seg (model X.prog X.w) A R (GY X S) n' s₀' (.forLoop tg (.ref it) body [] X.env) (.pure (.again (.forLoop tg (.ref it) body [] X.env)))
            (.ret (fun r => ((match r with | .ok f => (.pure f : Sem Flow) | .error e => .raise e).onRaise (cameBack X.env)).wrap K J gd lv) none (gd false) (lv []) c p [] :: fs) s7 := fun {σ7 H7} I7 n7 => by
          obtain ⟨acc7, c7, r7, I7⟩ := I7
          obtain ⟨m', hm, w7⟩ := hN ys' σ7 H7 n7
          have I7p : Inv X (((S, lstObj acc7 c7) :: ip) ++ pinsAt fp s5.heap) σ7 H7 s7 := I7
          have pn : ∀ b ∈ fp, ∀ o, s5.heap.get? b = some o → _ := fun b hb' o e => I7p.pin (b, o) (List.mem_append_right _ (List.mem_append_right _ (mem_pinsAt hb' e)))
          refine seg_again rfl (ih m' hm n' (i + 1) ys' s₀' s7 σ7 H7 hn' w7 ⟨acc7, c7, r7, I7p.unpinned⟩ (T.keep _ _ _ st5 fun b hb' o e => (pn b hb' o e).1) fun b hb' => ?_)
          obtain ⟨o, e, d⟩ := T.obj _ _ st5 b hb'
          exact (pn b hb' o e).2.1
        have out : ∀ {ys7 : List V} {σ7 : L2.St} {H7 : Hp}, GI X S (ip ++ pinsAt fp s5.heap) ys7 σ7 H7 s7 → GI X S ip ys7 σ7 H7 s7 := fun {ys7 σ7 H7} I7 => by
          obtain ⟨acc7, c7, r7, I7⟩ := I7
          have I7p : Inv X (((S, lstObj acc7 c7) :: ip) ++ pinsAt fp s5.heap) σ7 H7 s7 := I7
          exact ⟨acc7, c7, r7, I7p.unpinned⟩
        cases f with
        | next => obtain ⟨σ7, H7, I7, n7⟩ := hs'; exact again I7 n7
        | cont => obtain ⟨σ7, H7, I7, n7⟩ := hs'; exact again I7 n7
        | brk =>
          obtain ⟨σ7, H7, I7, q7⟩ := hs'
          exact seg_leaf (.ok .next) (k.ok n' ys' s₀' s7 .next hn' ⟨σ7, H7, out I7, q7⟩)
        | ret v =>
          obtain ⟨x7, σ7, H7, I7, r7, q7⟩ := hs'
          exact seg_leaf (.ok (.ret v)) (k.ok n' ys' s₀' s7 (.ret v) hn' ⟨x7, σ7, H7, out I7, r7, q7⟩)
  exact loop m0 n 0 ys s₀ s2 σ H2 hn w0 ⟨acc, cc, r, I2⟩ st2 fun b hb' => (f2 b hb').1
end
theorem passC {X : Cx} : Passes (CX X.prog X.w) X E0 := fun _ _ _ _ _ _ _ h => by
  obtain ⟨a, B, H', cls, d, z1, fl, z2, ub, z3, z4, z5, z6⟩ := h
  first | exact z1.elim | exact z2.elim | exact z3.elim | exact z4.elim | exact z6.elim
/-- a generator def that is there by its name -/
structure GCl (P : Program) (w : World) (K : PySem.W.Frag) (mg : Str → Option Value) (base : Heap) (k : Nat) (x : Str) (sp : SpG) : Prop where
  ex : ∃ (f : Addr) (fd : FuncData) (ps : List Str), GFn P w K mg base k f fd ps sp ∧ mg x = some (.ref f) ∧ PySem.W.keepIn K (.ref f) = true ∧ Binds K fd ps []
section
variable {X : Cx} {x : Str} {k j : Nat} {sp : SpG} {e : Expr} {es : List Expr} {t : TA} {p p2 pos pos' : Pos}
/-- list(f(e, ..)), f a generator def -/
theorem pe_listC (c : GCl X.prog X.w X.K X.mg X.base k x sp) (hr : Room j X.A) (hk : k + 3 ≤ j) (hg : Gl X x) (ha : PA X (e :: es) t) (hgl : Gl X "list") (hml : X.mg "list" = none) (hdb : (x == ("__debug__" : Str)) = false := by decide)
    (he : starEach (e :: es) X.env = (false, eval e X.env) :: starEach es X.env := by rfl) (hpl : (backTo pos' (starEach es X.env)).any (·.1) = false := by rfl)
    (he2 : starEach [.Call (.Name x p2) (e :: es) [] pos'] X.env = (false, eval (.Call (.Name x p2) (e :: es) [] pos') X.env) :: starEach [] X.env := by rfl) :
    PE X (.Call (.Name "list" p) [.Call (.Name x p2) (e :: es) [] pos'] [] pos) (tListG (tCallG sp [] E0 t)) := by
  obtain ⟨f, fd, ps, F, hm, kp, hb⟩ := c.ex
  exact pe_listG (pgen_call (dvs := []) (ds := []) F (hr.mono (by omega)) hg hm kp hb .nil ha hdb he hpl) passC (fun _ _ _ h => h.elim) (hr.mono hk) hgl hml bo_list
end
theorem gcl_of {P : Program} {w : World} {K : PySem.W.Frag} {mg : Str → Option Value} {base : Heap} {x qual : Str} {st : Stmt} {f : Addr} {fd : FuncData} {N ps : List Str} {k : Nat} {sp : SpG} (F : Fun K x qual st f fd) (S : GScope N ps (defScope st)) (hm : mg x = some (.ref f)) (hb : Binds K fd ps [])
    (len : ∀ vs H Q E, sp vs H Q E → vs.length = ps.length)
    (hbody : ∀ (cdv : Value) (A : Around) (outer : List Env) (s : Shared) (H : Hp) (vs : List V) (Q : List V → Hp → Prop) (E : XK) (pn : List (Addr × Obj)), Room k (A.deeper (envOfC qual (defScope st) s.heap.objs.size f cdv)) → sp vs H Q E →
      ∃ t, GSs (gcxOf P w K mg base N qual (defScope st) f cdv A outer s H E pn) (defBody st) t ∧ t { nx := fun ys _ H' => Q ys H', rt := fun ys v H' => v = .non ∧ Q ys H' } [] (start N vs) H) : GCl P w K mg base (k + 1) x sp := by
  obtain ⟨oc, od, kV, doc, pm, an, cdv, ct, osl, rfl, lk, hcd⟩ := F.ex
  exact ⟨f, _, ps, gfn_of lk hcd S len (fun A outer s H vs Q E pn hr hsp => hbody cdv A outer s H vs Q E pn hr hsp), hm, F.kp, hb⟩
section
end
end N0

/-! what terms give, said by value: conditions, numbers, rows, branches -/
namespace N0
open PySem PySem.Spec PyProof.Rows L2 HT
section
variable {K : PySem.W.Frag} {σ : L2.St} {H : Hp}
abbrev IsV (u : V) : V → Hp → Prop := fun v _ => v = u
theorem eb_test {te : TE} {b : Bool} (h : EvS te σ H (IsV (.bl b))) : EvB (tTest te) σ H b := fun H1 e Q q => h H1 e _ fun v H2 e2 ev => ⟨b, ev, q H2 e2⟩
theorem eb_bt {te : TE} {b : Bool} (h : EvS te σ H (IsV (.bl b))) : EvB (tB te) σ H b := fun H1 e Q q => h H1 e _ fun v H2 e2 ev => ⟨b, ev, q H2 e2⟩
theorem eb_and2 {c d : TT} {a b : Bool} (h : EvB c σ H a) (g : a = true → EvB d σ H b) : EvB (tAnd c d) σ H (a && b) := fun H1 e Q q => h H1 e _ fun H2 e2 => by
  cases a with
  | false => exact q H2 e2
  | true => exact g rfl H2 (Same.trans e e2) _ fun H3 e3 => q H3 (Same.trans e2 e3)
theorem eb_or2 {c d : TT} {a b : Bool} (h : EvB c σ H a) (g : a = false → EvB d σ H b) : EvB (tOr c d) σ H (a || b) := fun H1 e Q q => h H1 e _ fun H2 e2 => by
  cases a with
  | true => exact q H2 e2
  | false => exact g rfl H2 (Same.trans e e2) _ fun H3 e3 => q H3 (Same.trans e2 e3)
theorem eb_not {c : TT} {a : Bool} (h : EvB c σ H a) : EvB (tNot c) σ H (!a) := fun H1 e Q q => h H1 e _ fun H2 e2 => q H2 e2
theorem eb_as {c : TT} {a b : Bool} (h : EvB c σ H a) (e : a = b) : EvB c σ H b := e ▸ h
theorem es_as {te : TE} {u v : V} (h : EvS te σ H (IsV u)) (e : u = v) : EvS te σ H (IsV v) := e ▸ h
theorem es_vV {i : Nat} {v : V} (hv : σ[i]? = some (some v)) : EvS (tVar i) σ H (IsV v) := fun H1 e Q q => ⟨v, hv, q v H1 (Same.refl _) rfl⟩
theorem es_cV {v : V} : EvS (tC v) σ H (IsV v) := fun H1 e Q q => q v H1 (Same.refl _) rfl
theorem es_i0 {f : Int → Int → V} {ta tb : TE} {i j : Int} (ha : EvS ta σ H (IsV (.int i))) (hb : EvS tb σ H (IsV (.int j))) : EvS (tOp (rI0 f) ta tb) σ H (IsV (f i j)) := fun H1 e Q q =>
  ha H1 e _ fun x H2 e2 hx => hb H2 (Same.trans e e2) _ fun y H3 e3 hy => ⟨i, j, hx, hy, q _ _ (Same.trans e2 e3) rfl⟩
theorem es_u {f : Int → V} {ta : TE} {i : Int} (ha : EvS ta σ H (IsV (.int i))) : EvS (tUn (rU f) ta) σ H (IsV (f i)) := fun H1 e Q q =>
  ha H1 e _ fun x H2 e2 hx => ⟨i, hx, q _ _ e2 rfl⟩
theorem es_eqI {ta tb : TE} {i j : Int} (ha : EvS ta σ H (IsV (.int i))) (hb : EvS tb σ H (IsV (.int j))) : EvS (tOp rEq ta tb) σ H (IsV (.bl (decide (i = j)))) := fun H1 e Q q =>
  ha H1 e _ fun x H2 e2 hx => hb H2 (Same.trans e e2) _ fun y H3 e3 hy => by
    subst hx hy
    refine ⟨rfl, q _ _ (Same.trans e2 e3) ?_⟩
    rw [dec_int]
    rfl
theorem es_neI {ta tb : TE} {i j : Int} (ha : EvS ta σ H (IsV (.int i))) (hb : EvS tb σ H (IsV (.int j))) : EvS (tOp rNe ta tb) σ H (IsV (.bl (!decide (i = j)))) := fun H1 e Q q =>
  ha H1 e _ fun x H2 e2 hx => hb H2 (Same.trans e e2) _ fun y H3 e3 hy => by
    subst hx hy
    refine ⟨rfl, q _ _ (Same.trans e2 e3) ?_⟩
    rw [dec_int]
    rfl
theorem es_vT {i : Nat} {a : Addr} {ns : List Int} (hv : σ[i]? = some (some (.ref a))) (h : SqT K H a (ns.map V.int)) : EvS (tVar i) σ H (IsI K ns) := evs_var hv fun H1 e => ⟨a, rfl, same_tup e h⟩
theorem es_t0 : EvS (tTup tNil) σ H (IsI K []) := fun H1 e Q q => ⟨Nat.zero_le _, fun p hp => q _ _ (new_same hp) ⟨p, rfl, tup_of upd_same⟩⟩
theorem es_t1 {ta : TE} {i : Int} (ha : EvS ta σ H (IsV (.int i))) : EvS (tTup (tCons ta tNil)) σ H (IsI K [i]) := fun H1 e Q q =>
  ha H1 e _ fun x H2 e2 hx => ⟨by show 1 ≤ sizeLine; decide, fun p hp => q _ _ (Same.trans e2 (new_same hp)) ⟨p, rfl, by rw [hx]; exact tup_of upd_same⟩⟩
theorem es_eqT {ta tb : TE} {ns ms : List Int} (ha : EvS ta σ H (IsI K ns)) (hb : EvS tb σ H (IsI K ms)) : EvS (tOp (rEqD K) ta tb) σ H (IsV (.bl (decide (ns = ms)))) := fun H1 e Q q =>
  ha H1 e _ fun x H2 e2 ⟨a, ea, hx⟩ => hb H2 (Same.trans e e2) _ fun y H3 e3 ⟨b, eb, hy⟩ => by
    subst ea eb
    exact eq_tup (same_tup e3 hx) hy (q _ _ (Same.trans e2 e3) rfl)
theorem es_neT {ta tb : TE} {ns ms : List Int} (ha : EvS ta σ H (IsI K ns)) (hb : EvS tb σ H (IsI K ms)) : EvS (tOp (rNeD K) ta tb) σ H (IsV (.bl (!decide (ns = ms)))) := fun H1 e Q q =>
  ha H1 e _ fun x H2 e2 ⟨a, ea, hx⟩ => hb H2 (Same.trans e e2) _ fun y H3 e3 ⟨b, eb, hy⟩ => by
    subst ea eb
    exact ne_tup (same_tup e3 hx) hy (q _ _ (Same.trans e2 e3) rfl)
theorem es_ixT {ta ti : TE} {ns : List Int} {i x : Int} (ha : EvS ta σ H (IsI K ns)) (hi : EvS ti σ H (IsV (.int i))) (hx : atI (ns.map V.int) i = some (.int x)) : EvS (tOp (rIxT K) ta ti) σ H (IsV (.int x)) := fun H1 e Q q =>
  ha H1 e _ fun v H2 e2 ⟨a, ea, h⟩ => hi H2 (Same.trans e e2) _ fun y H3 e3 hy => ⟨a, _, i, .int x, ea, hy, same_tup e3 h, hx, q _ _ (Same.trans e2 e3) rfl⟩
theorem es_lenT {ta : TE} {ns : List Int} (ha : EvS ta σ H (IsI K ns)) : EvS (tCB (N0.rLen K) (tCons ta tNil)) σ H (IsV (.int (ns.length : Int))) := fun H1 e Q q =>
  ha H1 e _ fun v H2 e2 ⟨a, ea, h⟩ => ⟨a, _, by rw [ea], .inr h, q _ _ e2 (by rw [List.length_map])⟩
theorem es_cat {ta tb : TE} {ns ms : List Int} (ha : EvS ta σ H (IsI K ns)) (hb : EvS tb σ H (IsI K ms)) (hz : ns.length + ms.length ≤ 100000) : EvS (tOp (rCatA K) ta tb) σ H (IsI K (ns ++ ms)) := fun H1 e Q q =>
  ha H1 e _ fun v H2 e2 ⟨a, ea, h⟩ => hb H2 (Same.trans e e2) _ fun u H3 e3 ⟨b, eb, h2⟩ => by
    subst ea eb
    exact cat_ints (same_tup e3 h) h2 hz fun H' p e4 h4 => q _ _ (Same.trans (Same.trans e2 e3) e4) ⟨p, rfl, h4⟩
theorem es_if {c : TT} {ta tb : TE} {b : Bool} {P : V → Hp → Prop} (h : EvB c σ H b) (h1 : b = true → EvS ta σ H P) (h2 : b = false → EvS tb σ H P) : EvS (tIf c ta tb) σ H P := fun H1 e Q q => h H1 e _ fun H2 e2 => by
  cases b with
  | true => exact h1 rfl H2 (Same.trans e e2) _ fun v H3 e3 hv => q v H3 (Same.trans e2 e3) hv
  | false => exact h2 rfl H2 (Same.trans e e2) _ fun v H3 e3 hv => q v H3 (Same.trans e2 e3) hv
theorem ifs_b {c : TT} {t u x : TS} {D : Ends} {b : Bool} (h : EvB c σ H b) (h1 : b = true → ∀ H', Same H H' → t { D with nx := x D } σ H') (h2 : b = false → ∀ H', Same H H' → u { D with nx := x D } σ H') : tSeq (tIfS c t u) x D σ H := h H (Same.refl _) _ fun H2 e2 => by
  cases b with
  | true => exact h1 rfl H2 e2
  | false => exact h2 rfl H2 e2
theorem ifs_1 {c : TT} {t u : TS} {D : Ends} {b : Bool} (h : EvB c σ H b) (h1 : b = true → ∀ H', Same H H' → t D σ H') (h2 : b = false → ∀ H', Same H H' → u D σ H') : tIfS c t u D σ H := h H (Same.refl _) _ fun H2 e2 => by
  cases b with
  | true => exact h1 rfl H2 e2
  | false => exact h2 rfl H2 e2
theorem gif_b {c : TT} {t u : TGn} {D : GEnds} {ys : List V} {b : Bool} (h : EvB c σ H b) (h1 : b = true → ∀ H', Same H H' → t D ys σ H') (h2 : b = false → ∀ H', Same H H' → u D ys σ H') : tGIf c t u D ys σ H := h H (Same.refl _) _ fun H2 e2 => by
  cases b with
  | true => exact h1 rfl H2 e2
  | false => exact h2 rfl H2 e2
/-- what a pair of a row and of a number is -/
theorem es_pair {ta tb : TE} {P Pb : V → Hp → Prop} (hP : ∀ v H H1, Same H H1 → P v H → P v H1) (hPb : ∀ v H H1, Same H H1 → Pb v H → Pb v H1) (ha : EvS ta σ H P) (hb : EvS tb σ H Pb) :
    EvS (tTup (tCons ta (tCons tb tNil))) σ H fun v H' => ∃ t x y, v = .ref t ∧ SqT K H' t [x, y] ∧ P x H' ∧ Pb y H' := fun H1 e Q q =>
  ha H1 e _ fun x H2 e2 hx => hb H2 (Same.trans e e2) _ fun y H3 e3 hy => ⟨by show 2 ≤ sizeLine; decide, fun p hp => q _ _ (Same.trans (Same.trans e2 e3) (new_same hp)) ⟨p, x, y, rfl, tup_of upd_same, hP _ _ _ (Same.trans e3 (new_same hp)) hx, hPb _ _ _ (new_same hp) hy⟩⟩
theorem drop_app {i : Nat} {l : Addr} {te : TE} {P : V → Hp → Prop} {ys : List V} {D : Ends} (hv : σ[i]? = some (some (.ref l))) (hl : H l = some (.lst ys)) (hz : ys.length ≤ 100000) (h : EvS te σ H P) (rest : ∀ v H', Same H H' → H' l = some (.lst ys) → P v H' → D.nx σ (upd H' l (.lst (ys ++ [v])))) : tDrop (tBM K "list" rAppend (tVar i) (tCons te tNil)) D σ H :=
  ⟨.ref l, hv, .inl ⟨rfl, ys, lst_of hl⟩, h H (Same.refl _) _ fun v H' e hv => ⟨l, ys, v, rfl, rfl, e _ _ hl, Nat.lt_of_le_of_lt hz (by decide), rest v H' e (e _ _ hl) hv⟩⟩
/-- `if c: x.append(e)` and the like: a statement alone as the last one -/
theorem seq_last {t : TS} {D : Ends} (h : t { D with nx := D.nx } σ H) : tSeq t tNext D σ H := h
theorem gfor_list {a : Addr} {xs ys : List V} {g : TG} {tb : TGn} {D : GEnds} (Pv : Nat → List V → L2.St → Hp → Prop) (h0 : Pv 0 ys σ H) (hl : ∀ i ys σ H, i ≤ xs.length → Pv i ys σ H → SqL K H a xs)
    (hs : ∀ i x ys σ H, xs[i]? = some x → Pv i ys σ H → g x σ H fun σ2 H2 => tb { D with nx := Pv (i + 1), ct := Pv (i + 1), bk := D.nx } ys σ2 H2) (hd : ∀ ys σ H, Pv xs.length ys σ H → D.nx ys σ H) :
    ∃ W : Nat → Nat → List V → L2.St → Hp → Prop, (∃ m, W 0 m ys σ H) ∧ ∀ i m ys σ H, W i m ys σ H →
      ((Itl K a).stop i H ∧ D.nx ys σ H) ∨ ((Itl K a).go i H ∧ ∃ N : List V → L2.St → Hp → Prop, (∀ ys' σ' H', N ys' σ' H' → ∃ m', m' < m ∧ W (i + 1) m' ys' σ' H') ∧ ∀ x H', (Itl K a).yld i H x H' → g x σ H' fun σ2 H2 => tb { D with nx := N, ct := N, bk := D.nx } ys σ2 H2) := by
  refine ⟨fun i m ys σ H => m = xs.length - i ∧ i ≤ xs.length ∧ Pv i ys σ H, ⟨xs.length, by simp, Nat.zero_le _, h0⟩, ?_⟩
  rintro i m ys σ H ⟨rfl, hi, p⟩
  have q := hl i ys σ H hi p
  by_cases hlt : i < xs.length
  · refine .inr ⟨⟨xs, xs[i], q, by simp [hlt]⟩, Pv (i + 1), fun ys' σ' H' p' => ⟨xs.length - (i + 1), by omega, rfl, hlt, p'⟩, fun x H' y => ?_⟩
    obtain ⟨e, y⟩ := y
    subst e
    exact hs i x ys σ _ (y xs q) p
  · have e : i = xs.length := by omega
    subst e
    exact .inl ⟨⟨xs, q, Nat.le_refl _⟩, hd ys σ H p⟩
theorem es_modI {ta tb : TE} {i j : Int} (ha : EvS ta σ H (IsV (.int i))) (hb : EvS tb σ H (IsV (.int j))) (hj : 0 < j) : EvS (tOp (rI (fun _ j => 0 < j) fun i j => V.int (i % j)) ta tb) σ H (IsV (.int (i % j))) := fun H1 e Q q =>
  ha H1 e _ fun x H2 e2 hx => hb H2 (Same.trans e e2) _ fun y H3 e3 hy => ⟨i, j, hx, hy, hj, q _ _ (Same.trans e2 e3) rfl⟩
theorem es_lstN {ta : TA} {ds : List PyData} (h : EvD K ta σ H ds) (hl : ds.length ≤ 1000) : EvS (tLst ta) σ H (fun v H' => ∃ l vs, v = .ref l ∧ H' l = some (.lst vs) ∧ DpAll K H' vs ds ∧ H l = none) := fun H1 e Q q =>
  h H1 e _ fun vs H2 e2 hvs => ⟨Nat.le_of_lt (small1000 (by rw [dpa_len hvs]; omega)), fun p hp => q _ _ (Same.trans e2 (new_same hp)) ⟨p, vs, rfl, upd_same, dpa_same (new_same hp) _ _ hvs, Same.free e (Same.free e2 hp)⟩⟩
theorem es_eqD {ta tb : TE} {d e : PyData} (ha : EvS ta σ H (IsD K d)) (hb : EvS tb σ H (IsD K e)) (s1 : SeqAt.shaped d = true) (s2 : SeqAt.shaped e = true) : EvS (tOp (rEqD K) ta tb) σ H (IsV (.bl (PyData.eqv d e))) := fun H1 q1 Q q =>
  ha H1 q1 _ fun x H2 e2 hx => hb H2 (Same.trans q1 e2) _ fun y H3 e3 hy => ⟨d, e, dp_same e3 _ _ hx, hy, s1, s2, q _ _ (Same.trans e2 e3) rfl⟩
theorem es_neD {ta tb : TE} {d e : PyData} (ha : EvS ta σ H (IsD K d)) (hb : EvS tb σ H (IsD K e)) (s1 : SeqAt.shaped d = true) (s2 : SeqAt.shaped e = true) : EvS (tOp (rNeD K) ta tb) σ H (IsV (.bl (!PyData.eqv d e))) := fun H1 q1 Q q =>
  ha H1 q1 _ fun x H2 e2 hx => hb H2 (Same.trans q1 e2) _ fun y H3 e3 hy => ⟨d, e, dp_same e3 _ _ hx, hy, s1, s2, q _ _ (Same.trans e2 e3) rfl⟩
theorem es_lenD {ta : TE} {ds : List PyData} (ha : EvS ta σ H (IsD K (.list ds))) : EvS (tCB (N0.rLen K) (tCons ta tNil)) σ H (IsV (.int (ds.length : Int))) := fun H1 e Q q =>
  ha H1 e _ fun v H2 e2 hv => by
    cases hv with
    | lst h hd => exact ⟨_, _, rfl, .inl h, q _ _ e2 (by rw [dpa_len hd])⟩
end
/-! rows of rows, as data -/
theorem eqv_rows : ∀ a b : List (List Int), PyData.eqvAll (a.map tupD) (b.map tupD) = decide (a = b)
  | [], [] => rfl
  | [], _ :: _ => rfl
  | _ :: _, [] => rfl
  | x :: a, y :: b => by
    show (PyData.eqv (tupD x) (tupD y) && PyData.eqvAll (a.map tupD) (b.map tupD)) = _
    rw [eqv_rows a b, show PyData.eqv (tupD x) (tupD y) = decide (x = y) from eqv_tup x y, Bool.eq_iff_iff, Bool.and_eq_true, decide_eq_true_iff, decide_eq_true_iff, decide_eq_true_iff, List.cons.injEq]
def rowsD (ts : List (List Int)) : PyData := .list (ts.map tupD)
theorem eqv_rowsD (a b : List (List Int)) : PyData.eqv (rowsD a) (rowsD b) = decide (a = b) := eqv_rows a b
theorem canLay_rows : ∀ a : List (List Int), PyData.canLayAll0 (a.map tupD) = true
  | [] => rfl
  | x :: a => by
    show (PyData.canLay0 (tupD x) && PyData.canLayAll0 (a.map tupD)) = true
    rw [canLay_tup, canLay_rows a]
    rfl
theorem depth_rows : ∀ a : List (List Int), PyData.depthAll (a.map tupD) ≤ 1
  | [] => Nat.zero_le _
  | x :: a => by
    show max (tupD x).depth (PyData.depthAll (a.map tupD)) ≤ 1
    have h1 : (tupD x).depth = 1 := by
      show PyData.depthAll (x.map .int) + 1 = 1
      rw [depth_ints]
    have h2 := depth_rows a
    omega
theorem shaped_rows (a : List (List Int)) : SeqAt.shaped (rowsD a) = true := by
  unfold SeqAt.shaped rowsD
  rw [show PyData.canLay0 (.list (a.map tupD)) = PyData.canLayAll0 (a.map tupD) from rfl, canLay_rows, Bool.true_and, decide_eq_true_iff]
  show PyData.depthAll (a.map tupD) + 1 ≤ 64
  have := depth_rows a
  omega
theorem dp_rows {K : PySem.W.Frag} {H : Hp} {a : Addr} {vs : List V} {ts : List (List Int)} (h : SqL K H a vs) (hd : DpAll K H vs (ts.map tupD)) : Dp K H (.ref a) (rowsD ts) := .lst h hd
end N0

/-! «yield from» a list; // by a wide number of any sign -/
namespace N0
open PySem PySem.Spec PyProof.Rows L2 HT GenW
section
variable {prog : Program} {w : World} {A : Around} {E : Value → Shared → Prop} {s : Shared} {Q : Option Value → Shared → Prop}
/-- a list's iterator asked for what comes next: there is one more -/
theorem li_more {z b : Addr} {n : Nat} {its : Array Value} {y : Value} (g : s.heap.IsListIter z b n) (g2 : s.heap.IsList b its) (hy : its[n]? = some y)
    (k : ∀ hp, hp.IsListIter z b (n + 1) → Heap.SameBut z s.heap hp → Q (some y) { s with heap := hp }) : wpAny (model prog w) A (callSpecial? (.ref z) "__next__") Q E s := by
  obtain ⟨oz, e1, e2, e3⟩ := id g
  obtain ⟨ob, u1, u2, m, u3⟩ := g2
  refine wpAny_callSpecial?_slot (name := Str.ofString "__next__") g.typeIs slot_listiter_next (wpAny_call_entry slot_listiter_next g.typeIs entry_listiter_next ?_ (args_listiter_next _))
  show wpAny _ _ (field (.ref z) 0 >>= _) _ _ s
  refine wpAny_bind (wpAny_field e1 e3 (x := .ref b) rfl (?_ : wpAny _ _ (if (Value.ref b == Value.none) = true then _ else _) _ _ s))
  rw [if_neg (show ¬ ((Value.ref b == Value.none) = true) from fun q => nomatch q)]
  refine wpAny_bind (wpAny_field e1 e3 (x := .int n 0) rfl (wpAny_bind (wpAny_seqItems u1 u3 ?_)))
  simp only [Int.toNat_natCast, hy]
  refine wpAny_bind (wpAny_setField e1 e3 (by simp) (wpAny_pure ⟨y, rfl, k _ ⟨_, Heap.get?_update_self _ e1 (Obj.isFreed_of_fields (Obj.data_mapFields e3 _)), (Obj.cls_mapFields ..).trans e2, ?_⟩ (Heap.SameBut.update ..)⟩))
  rw [Obj.data_mapFields e3]
  simp [rawInt]
/-- there is none -/
theorem li_none {z b : Addr} {n : Nat} {its : Array Value} (nh : A.handled = none) (g : s.heap.IsListIter z b n) (g2 : s.heap.IsList b its) (hy : its[n]? = none)
    (k : ∀ e hp, StopX e hp → Heap.ExtBut z s.heap hp → E e { s with heap := hp }) : wpAny (model prog w) A (callSpecial? (.ref z) "__next__") Q E s := by
  obtain ⟨oz, e1, e2, e3⟩ := id g
  obtain ⟨ob, u1, u2, m, u3⟩ := g2
  refine wpAny_callSpecial?_slot (name := Str.ofString "__next__") g.typeIs slot_listiter_next (wpAny_call_entry slot_listiter_next g.typeIs entry_listiter_next ?_ (args_listiter_next _))
  show wpAny _ _ (field (.ref z) 0 >>= _) _ _ s
  refine wpAny_bind (wpAny_field e1 e3 (x := .ref b) rfl (?_ : wpAny _ _ (if (Value.ref b == Value.none) = true then _ else _) _ _ s))
  rw [if_neg (show ¬ ((Value.ref b == Value.none) = true) from fun q => nomatch q)]
  refine wpAny_bind (wpAny_field e1 e3 (x := .int n 0) rfl (wpAny_bind (wpAny_seqItems u1 u3 ?_)))
  simp only [Int.toNat_natCast, hy]
  refine wpAny_bind (wpAny_rule (wpAny_bind (wpAny_setField e1 e3 (by simp) (?_ : wpAny _ _ (newExc (.type "StopIteration") [] >>= _) _ _ _))))
  refine wpAny_bind ?_
  simp only [newExc, newTuple]
  refine wpAny_bind (wpAny_newObj_type (wpAny_bind (m := firstArgMember _ _) (wpAny_of_eq (a := Value.none) (by first | rfl | (simp only [firstArgMember]; rfl)) (wpAny_newObj_type ?_ (by size_fits)))) (by size_fits))
  simp only [raiseNew]
  refine wpAny_bind (wpAny_handled ?_)
  first | rw [show A.in1.handled = none from nh] | rw [nh]
  refine wpAny_bind (wpAny_pure (wpAny_throw (k _ _ ⟨_, _, _, rfl, Heap.get?_push_size _ rfl, rfl, rfl, ?_⟩ (((Heap.SameBut.update ..).extBut.push _).push _))))
  first
    | rfl
    | (rw [Array.getElem?_append_left (by decide)]; rfl)
    | kernel_rfl
end
section
variable {X : Cx} {e : Expr} {te : TE}
def tYfL (te : TE) : TYf := fun σ H Q => te σ H fun x H1 => ∃ b xs, x = .ref b ∧ H1 b = some (.lst xs) ∧ Q xs H1
theorem close_li : typeLookup (.type "list_iterator") "close" = pure none := by rw [typeLookup_type, builtinLookup_eq_fast]; kernel_rfl
theorem yf_list (he : PE X e te) : YfE X e (tYfL te) := by
  refine ⟨fun pins s σ H Q I h => thn (he.run pins s σ H _ I h) fun v s1 ⟨x, H1, I1, r1, b, xs, ex, hb, hq⟩ => ?_⟩
  subst ex
  obtain rfl : v = Value.ref b := r1
  obtain ⟨hlen, its, m, ri, hl0⟩ := I1.hok b _ hb
  have hl : s1.heap.IsList b its.toArray := ⟨_, hl0, rfl, m, rfl⟩
  refine ⟨"list", hl.typeIs, by decide, wpAny_pyIter_list hl ?_⟩
  have old : ∀ c o, s1.heap.get? c = some o → c ≠ s1.heap.objs.size := fun c o z => Nat.ne_of_lt (Heap.lt_size z)
  refine ⟨s1.heap.objs.size, H1, xs, fun j hp => hp.IsListIter s1.heap.objs.size b j ∧ hp.IsList b its.toArray, rfl, I1.kept (t' := s1.toks) fun c o z => Heap.get?_push_of_some _ z, .inr I1.sz, Nat.ne_of_gt I1.lt, fun y c hy => ?_, I1.hok.fresh (Nat.le_refl _), fun p hp => old p.1 _ (I1.pin p hp).1,
    ⟨⟨_, Heap.get?_push_size _ rfl, rfl, rfl⟩, hl.push _⟩, ⟨⟨"list_iterator", fun j hp q => q.1.imp fun o z => ⟨z.1, z.2.1⟩, close_li, by decide⟩, fun j hp hp' q hk => ?_, fun A' j x s2 Q' E' hA hx q hQ => ?_, fun A' s2 Q' E' hA q hE => ?_⟩, hq⟩
  · obtain ⟨v, o, ho, _⟩ := I1.cell y c hy
    exact old c o ho
  · obtain ⟨⟨o, ho, r⟩, o2, ho2, r2⟩ := q
    refine ⟨⟨o, hk _ o (.inl rfl) ho, r⟩, o2, hk _ o2 (.inr fun z => ?_) ho2, r2⟩
    rw [hb] at z
    cases z
  · obtain ⟨u, hu, ru⟩ := ri.get hx
    refine li_more q.1 q.2 (y := u) (by simpa using hu) fun hp g hs => hQ u hp s2.toks ru ⟨g, q.2.extBut hs.extBut ?_⟩ fun c o hc z => hs.extBut c o hc z
    obtain ⟨o, ho, _⟩ := hl
    exact old b o ho
  · have hn : its.toArray[xs.length]? = none := by
      have e1 := ri.length
      have e2 : its[xs.length]? = none := List.getElem?_eq_none_iff.mpr (by omega)
      simpa using e2
    exact li_none hA q.1 q.2 hn fun e hp hS hk => hE e hp s2.toks hS fun c o hc z => hk c o hc z
def CDivS (i j : Int) : Prop := j ≠ 0 ∧ j.natAbs.log2 < 9000
theorem op_fdivS : OpR X (binaryOp .FloorDiv) (rI CDivS fun i j => .int (i.fdiv j)) := opI fun i j _ _ _ _ _ hc q => floordiv_int hc.1 q (.inl (PyProof.noPylong_of_log2 hc.2))
end
section
variable {K : PySem.W.Frag} {σ : L2.St} {H : Hp}
theorem ev_ite {c : TT} {b : Bool} {A B : Hp → Prop} (h : EvB c σ H b) (h1 : b = true → ∀ H', Same H H' → A H') (h2 : b = false → ∀ H', Same H H' → B H') : c σ H (fun b H' => if b = true then A H' else B H') := h H (Same.refl _) _ fun H' e => by
  cases b with
  | true => exact h1 rfl H' e
  | false => exact h2 rfl H' e
/-- turns over a list, whatever is done with each item -/
theorem in_list {a : Addr} {xs : List V} {body : V → Hp → (Hp → Prop) → Prop} {Fin : Hp → Prop} (Pv : Nat → Hp → Prop) (h0 : Pv 0 H) (hl : ∀ i H, i ≤ xs.length → Pv i H → SqL K H a xs) (hs : ∀ i x H, xs[i]? = some x → Pv i H → body x H (Pv (i + 1))) (hd : ∀ H, Pv xs.length H → Fin H) :
    ∃ W : Nat → Nat → Hp → Prop, (∃ m, W 0 m H) ∧ ∀ i m H, W i m H → ((Itl K a).stop i H ∧ Fin H) ∨ ((Itl K a).go i H ∧ ∃ Nx : Hp → Prop, (∀ H', Nx H' → ∃ m', m' < m ∧ W (i + 1) m' H') ∧ ∀ x H', (Itl K a).yld i H x H' → body x H' Nx) := by
  refine ⟨fun i m H => m = xs.length - i ∧ i ≤ xs.length ∧ Pv i H, ⟨xs.length, by simp, Nat.zero_le _, h0⟩, ?_⟩
  rintro i m H ⟨rfl, hi, p⟩
  have q := hl i H hi p
  by_cases hlt : i < xs.length
  · refine .inr ⟨⟨xs, xs[i], q, by simp [hlt]⟩, Pv (i + 1), fun H' p' => ⟨xs.length - (i + 1), by omega, rfl, hlt, p'⟩, fun x H' y => ?_⟩
    obtain ⟨e, y⟩ := y
    subst e
    exact hs i x _ (y xs q) p
  · have e : i = xs.length := by omega
    subst e
    exact .inl ⟨⟨xs, q, Nat.le_refl _⟩, hd H p⟩
theorem es_neV {ta tb : TE} {u v : V} (ha : EvS ta σ H (IsV u)) (hb : EvS tb σ H (IsV v)) (hs : scal u v = true) : EvS (tOp rNe ta tb) σ H (IsV (.bl (!decide (u = v)))) := fun H1 e Q q =>
  ha H1 e _ fun x H2 e2 hx => hb H2 (Same.trans e e2) _ fun y H3 e3 hy => by
    subst hx hy
    exact ⟨hs, q _ _ (Same.trans e2 e3) rfl⟩
theorem es_eqV {ta tb : TE} {u v : V} (ha : EvS ta σ H (IsV u)) (hb : EvS tb σ H (IsV v)) (hs : scal u v = true) : EvS (tOp rEq ta tb) σ H (IsV (.bl (decide (u = v)))) := fun H1 e Q q =>
  ha H1 e _ fun x H2 e2 hx => hb H2 (Same.trans e e2) _ fun y H3 e3 hy => by
    subst hx hy
    exact ⟨hs, q _ _ (Same.trans e2 e3) rfl⟩
theorem es_rI {C : Int → Int → Prop} {f : Int → Int → V} {ta tb : TE} {i j : Int} (ha : EvS ta σ H (IsV (.int i))) (hb : EvS tb σ H (IsV (.int j))) (hc : C i j) : EvS (tOp (rI C f) ta tb) σ H (IsV (f i j)) := fun H1 e Q q =>
  ha H1 e _ fun x H2 e2 hx => hb H2 (Same.trans e e2) _ fun y H3 e3 hy => ⟨i, j, hx, hy, hc, q _ _ (Same.trans e2 e3) rfl⟩
theorem es_strI {ta : TE} {i : Int} (ha : EvS ta σ H (IsV (.int i))) (hl : i.natAbs.log2 < 1920) : EvS (tCB (fun xs H Q => ∃ i : Int, xs = [V.int i] ∧ i.natAbs.log2 < 1920 ∧ Q (V.str (Str.ofString (toString i))) H) (tCons ta tNil)) σ H (IsV (.str (Str.ofString (toString i)))) := fun H1 e Q q =>
  ha H1 e _ fun x H2 e2 hx => ⟨i, by rw [hx], hl, q _ _ e2 rfl⟩
theorem es_addS {ta tb : TE} {x y : Str} (ha : EvS ta σ H (IsV (.str x))) (hb : EvS tb σ H (IsV (.str y))) (hz : x.length + y.length ≤ sizeLine) : EvS (tOp (fun x y H Q => ∃ i j, x = V.str i ∧ y = V.str j ∧ i.length + j.length ≤ sizeLine ∧ Q (V.str (i ++ j)) H) ta tb) σ H (IsV (.str (x ++ y))) := fun H1 e Q q =>
  ha H1 e _ fun u H2 e2 hu => hb H2 (Same.trans e e2) _ fun v H3 e3 hv => ⟨x, y, hu, hv, hz, q _ _ (Same.trans e2 e3) rfl⟩
theorem es_intB {ta : TE} {k : Bool} (ha : EvS ta σ H (IsV (.bl k))) : EvS (tCB (fun xs H Q => (∃ i, xs = [V.int i] ∧ Q (V.int i) H) ∨ ∃ k : Bool, xs = [V.bl k] ∧ Q (V.int (if k = true then 1 else 0)) H) (tCons ta tNil)) σ H (IsV (.int (if k = true then 1 else 0))) := fun H1 e Q q =>
  ha H1 e _ fun x H2 e2 hx => .inr ⟨k, by rw [hx], q _ _ e2 rfl⟩
theorem es_ixL {i : Nat} {l : Addr} {ys : List V} {j : Int} {v : V} (hv : σ[i]? = some (some (.ref l))) (hl : H l = some (.lst ys)) (hj : atI ys j = some v) : EvS (tOp (rIxL K) (tVar i) (tC (.int j))) σ H (IsV v) := fun H1 e Q q =>
  ⟨.ref l, hv, l, ys, j, v, rfl, rfl, lst_of (e _ _ hl), hj, q _ _ (Same.refl _) rfl⟩
theorem es_refT {te : TE} {p : Addr} {ns : List Int} (h : EvS te σ H (IsV (.ref p))) (hp : SqT K H p (ns.map V.int)) : EvS te σ H (IsI K ns) := fun H1 e Q q => h H1 e _ fun v H2 e2 hv => q _ _ e2 ⟨p, hv, same_tup (Same.trans e e2) hp⟩
theorem es_lstA {ta : TA} {n : Nat} {P : V → Hp → Prop} (pp : ∀ v H H1, Same H H1 → P v H → P v H1) (h : EvA ta σ H n P) (hn : n ≤ 1000) : EvS (tLst ta) σ H (fun v H' => ∃ l vs, v = .ref l ∧ H' l = some (.lst vs) ∧ ∀ u ∈ vs, P u H') := fun H1 e Q q =>
  h H1 e _ fun vs H2 e2 hl hvs => ⟨Nat.le_of_lt (small1000 (by omega)), fun p hp => q _ _ (Same.trans e2 (new_same hp)) ⟨p, vs, rfl, upd_same, fun u hu => pp _ _ _ (new_same hp) (hvs u hu)⟩⟩
theorem rs_mutl {S l : Addr} {o : HO} {H H1 : Hp} (r : Rs (some S) H H1) (hl : H l = none) (ne : S ≠ l) : Rs (some S) H (upd H1 l o) := ⟨r.s0, by
  obtain ⟨x, y, z, e⟩ := r.s1
  exact ⟨x, y, z, by rw [upd_ne ne]; exact e⟩, fun a u n e => by
  rw [upd_ne (fun q => by rw [q, hl] at e; cases e)]
  exact r.keep a u n e⟩
theorem dpa_rs {S : Addr} {H H1 : Hp} (r : Rs (some S) H H1) : ∀ {vs : List V} {ts : List (List Int)}, DpAll K H vs (ts.map tupD) → DpAll K H1 vs (ts.map tupD)
  | [], [], _ => .nil
  | _ :: _, [], h => nomatch h
  | [], _ :: _, h => nomatch h
  | v :: vs, t :: ts, .cons h g => by
    refine .cons ?_ (dpa_rs r g)
    cases h with
    | tup ha hd =>
      rw [dpa_ints hd] at ha
      exact dp_tup (r.tup ha)
end
end N0

/-! own classes: len(o), str(o), o == v, o != v by the class's own methods -/
namespace N0
open PySem PySem.Spec PyProof.Rows L2 HT
section
variable {X : Cx} {pins : List (Addr × Obj)} {σ : L2.St} {H : Hp} {s : Shared} {k : Nat} {f C : Addr} {fd : FuncData} {ps : List Str} {sp : Sp}
/-- a def of the class called somewhere below the running body -/
theorem own_run {A : Around} {us : List Value} {vs : List V} {Q : VK} {E' : Value → Shared → Prop} (hA : A.frames = X.A.frames) (hr : Room k A) (F : FnOk X.prog X.w X.K X.mg X.base CX0 k f fd ps sp) (hb : Binds X.K fd ps []) (I : Inv X pins σ H s) (r : Vals vs us) (h : sp vs H Q E0) :
    wpAny (model X.prog X.w) A (call (.ref f) us) (EP X pins σ Q) E' s := by
  have e0 : Env0 X.prog X.w X.K X.mg X.base A X.stack s H := by
    have e := I.env0
    exact ⟨by rw [hA]; exact e.frames, e.mod, e.bs, e.bsz, e.funs, e.frf, e.hok, e.bare⟩
  have hl := F.len _ _ _ _ h
  have hul := r.length
  refine wpAny_call (codeAny_mono (F.run A X.stack s H ⟨us, []⟩ us vs Q E0 hr e0 (by
    have := hb s us I.kIn (by simp; omega)
    simpa using this) r h) fun r s' hq => ?_)
  cases r with
  | error e => exact (show False from hq).elim
  | ok fl =>
    cases fl with
    | ret w => exact I.after hq
    | next => exact False.elim hq
    | brk => exact False.elim hq
    | cont => exact False.elim hq
/-- the class at C has the def at f as its m -/
structure Own (K : PySem.W.Frag) (C : Addr) (m : Str) (f : Addr) : Prop where
  at_ : PySem.W.findIn K (.ref C) m = some (some (.ref f))
  fn : PySem.W.isFn K (.ref f) = true
def rOwnLen (C : Addr) (sp : Sp) : List V → Hp → VK → Prop := fun xs H Q => ∃ a dx fs, xs = [.ref a] ∧ H a = some (.ins C dx fs) ∧ sp [.ref a] H (fun v H' => ∃ n : Int, v = .int n ∧ 0 ≤ n ∧ n < 2 ^ 63 ∧ Q (.int n) H') E0
theorem cr_ownLen (F : FnOk X.prog X.w X.K X.mg X.base CX0 k f fd ps sp) (hb : Binds X.K fd ps []) (O : Own X.K C "__len__" f) (hr : Room (k + 1) X.A) : CallR X (.builtin "len") (rOwnLen C sp) := by
  intro pins s σ H xs us Q I r h
  obtain ⟨a, dx, fs, rfl, ha, h⟩ := h
  obtain ⟨u, rfl, r1⟩ := vals1 r
  cases r1
  obtain ⟨mA, J, _⟩ := ins_get I.hok ha
  obtain ⟨od, J, _⟩ := J.look
  obtain ⟨m, hF⟩ := I.fr
  refine PySem.W.len_K hF I.ok.mod.kin J O.at_ O.fn (wpAny_mono (own_run (A := X.A.in1) rfl hr.in1 F hb I r h) (fun v s' q => ?_) fun _ _ q => q)
  obtain ⟨z, H', I', rz, n, rfl, n0, n1, q⟩ := q
  obtain ⟨t, rfl⟩ := rz
  exact ⟨⟨n0, n1⟩, .int n, H', I'.tok _, ⟨_, rfl⟩, q⟩
def rOwnStr (C : Addr) (sp : Sp) : List V → Hp → VK → Prop := fun xs H Q => ∃ a dx fs, xs = [.ref a] ∧ H a = some (.ins C dx fs) ∧ sp [.ref a] H (fun v H' => ∃ x : Str, v = .str x ∧ Q (.str x) H') E0
theorem cr_ownStr (F : FnOk X.prog X.w X.K X.mg X.base CX0 k f fd ps sp) (hb : Binds X.K fd ps []) (O : Own X.K C "__str__" f) (hr : Room (k + 2) X.A) : CallR X (.type "str") (rOwnStr C sp) := by
  intro pins s σ H xs us Q I r h
  obtain ⟨a, dx, fs, rfl, ha, h⟩ := h
  obtain ⟨u, rfl, r1⟩ := vals1 r
  cases r1
  obtain ⟨mA, J, _⟩ := ins_get I.hok ha
  obtain ⟨od, J, _⟩ := J.look
  have hr2 : Room k X.A.in1.in1 := hr.in1.in1
  refine PySem.W.kso_call (by have := hr2.un; omega) I.kIn J O.at_ O.fn (wpAny_mono (own_run (A := X.A.in1.in1) rfl hr2 F hb I r h) (fun v s' q => ?_) fun _ _ q => q)
  obtain ⟨z, H', I', rz, x, rfl, q⟩ := q
  obtain ⟨t, rfl⟩ := rz
  exact ⟨.str x, H', I', ⟨_, rfl⟩, q⟩
/-- the other side's class does not come first -/
def NotFirst (K : PySem.W.Frag) (H : Hp) (C : Addr) (y : V) : Prop := (∃ b dy gs, y = .ref b ∧ H b = some (.ins C dy gs)) ∨ ∃ b xs, y = .ref b ∧ SqT K H b xs ∧ PySem.W.subIn K (.type "tuple") (.ref C) = some false
theorem notFirst_of {y : V} {v : Value} (I : Inv X pins σ H s) (ry : RelV y v) (nf : NotFirst X.K H C y) : ∃ tb, PySem.W.Looks (model X.prog X.w) s.heap (typeOf v) tb ∧ PySem.W.notFirst X.K C tb = true := by
  rcases nf with ⟨b, dy, gs, rfl, hy⟩ | ⟨b, xs, rfl, hT, hs⟩
  · cases ry
    obtain ⟨mB, J', _⟩ := ins_get I.hok hy
    obtain ⟨od', J', _⟩ := J'.look
    exact ⟨.ref C, J'.type, by simp [PySem.W.notFirst]⟩
  · cases ry
    obtain ⟨its, r, ⟨o, ho, hc, _⟩, _⟩ := I.tuple hT
    exact ⟨.type "tuple", fun A Q E s k q => wpAny_typeOf_ref (k _ _ ho) (by rw [hc]; exact q), by simp [PySem.W.notFirst, hs]⟩
def rOwnEq (neg : Bool) (K : PySem.W.Frag) (C : Addr) (sp : Sp) : R2 := fun x y H Q => ∃ a dx fs, x = .ref a ∧ H a = some (.ins C dx fs) ∧ NotFirst K H C y ∧ sp [.ref a, y] H (fun v H' => ∃ b : Bool, v = .bl b ∧ Q (.bl (if neg = true then !b else b)) H') E0
theorem op_ownEq (F : FnOk X.prog X.w X.K X.mg X.base CX0 k f fd ps sp) (hb : Binds X.K fd ps []) (O : Own X.K C "__eq__" f) (hr : Room k X.A) : OpR X (compareOp .Eq) (rOwnEq false X.K C sp) := by
  intro pins s σ H x y u v Q I rx ry h
  obtain ⟨a, dx, fs, rfl, ha, nf, h⟩ := h
  cases rx
  obtain ⟨mA, J, _⟩ := ins_get I.hok ha
  obtain ⟨od, J, _⟩ := J.look
  obtain ⟨m, hF⟩ := I.fr
  obtain ⟨tb, L, hn⟩ := notFirst_of I ry nf
  have r1 : RelV (V.ref a) (Value.ref a) := rfl
  show wpAny _ _ (richCompare .Eq (.ref a) v) _ _ s
  refine PySem.W.cmp_K (op := .Eq) (by have := hr.un; omega) hF I.ok.mod.kin J L hn O.at_ O.fn (wpAny_mono (own_run (A := X.A) rfl hr F hb I (.cons r1 (.cons ry .nil)) h) (fun w s' q => ?_) fun _ _ q => q)
  obtain ⟨z, H', I', rz, b, rfl, q⟩ := q
  cases rz
  exact ⟨.bl b, H', I', rfl, q⟩
/-- what != wants of the class -/
structure OwnNe (K : PySem.W.Frag) (C : Addr) : Prop where
  ne : PySem.W.findIn K (.ref C) "__ne__" = some (some (.builtin "object.__ne__"))
  ob : PySem.W.mroIn K C (.type "object") = some true
theorem op_ownNe (F : FnOk X.prog X.w X.K X.mg X.base CX0 k f fd ps sp) (hb : Binds X.K fd ps []) (O : Own X.K C "__eq__" f) (N : OwnNe X.K C) (hr : Room (k + 1) X.A) : OpR X (compareOp .NotEq) (rOwnEq true X.K C sp) := by
  intro pins s σ H x y u v Q I rx ry h
  obtain ⟨a, dx, fs, rfl, ha, nf, h⟩ := h
  cases rx
  obtain ⟨mA, J, _⟩ := ins_get I.hok ha
  obtain ⟨od, J, _⟩ := J.look
  obtain ⟨m, hF⟩ := I.fr
  obtain ⟨tb, L, hn⟩ := notFirst_of I ry nf
  have r1 : RelV (V.ref a) (Value.ref a) := rfl
  have X1 : X.K.In s.heap := I.kIn
  have hu : X.A.units + 40 < cLine := by have := hr.un; omega
  have isob : PySem.W.Looks (model X.prog X.w) s.heap (isInstance (.ref a) (.type "object")) true := J.type.andThen (PySem.W.looks_mroIn X1 N.ob)
  have body : wpAny (model X.prog X.w) X.A (call (.builtin "object.__ne__") [.ref a, v]) (fun w s' => ∃ b : Bool, w = .bool b ∧ EP X pins σ Q (.bool b) s') X.xe s := by
    refine wpAny_call (codeAny_call_builtin (by decide +kernel) PySem.F.cmpEntry_ne (@PySem.W.check_slot (model X.prog X.w) _ _ s "object.__ne__" "object" "__ne__" (.ref a) [v] [] _ PySem.F.cmpKind_ne PySem.F.cmpSplit_ne isob (PySem.F.cmpArgs_ne _ _) ?_))
    unfold Builtin.«object.__ne__»
    have room1 : X.A.in1.units < cLine := by have := hr.in1.un; omega
    have ask : ∀ {Q2 : Option Value → Shared → Prop} {E2 : Value → Shared → Prop}, (∀ (b : Bool) s', EP X pins σ Q (.bool (!b)) s' → Q2 (some (.bool b)) s') → wpAny (model X.prog X.w) X.A.in1 (callSpecialIfBound? (.ref a) "__eq__" [v]) Q2 E2 s := fun {Q2 E2} kq =>
      PySem.W.ifBound_K X1 J O.at_ O.fn (wpAny_mono (own_run (A := X.A.in1) rfl hr.in1 F hb I (.cons r1 (.cons ry .nil)) h) (fun w s' q => by
        obtain ⟨z, H', I', rz, b, rfl, q⟩ := q
        cases rz
        exact kq b s' ⟨.bl (!b), H', I', rfl, q⟩) fun _ _ q => q)
    repeat (first | with_reducible refine wpAny_cRoomFor room1 ?_ | with_reducible refine ask ?_ | wp_step)
    intro b s' q
    show wpAny _ _ (truthy (.bool b) >>= fun d => ret (.bool !d)) _ _ _
    exact wpAny_bind (wpAny_pure (wpAny_pure ⟨_, rfl, q⟩))
  have one : wpAny (model X.prog X.w) X.A (tryCompare (.ref a) "__ne__" v) (fun r s' => ∃ w, r = some w ∧ EP X pins σ Q w s') X.xe s := by
    unfold tryCompare
    refine wpAny_bind ?_
    simp only [callSpecialIfBound?, bindSpecialIfBound?]
    refine wpAny_holding (wpAny_bind (wpAny_bind (wpAny_bind (J.type.here ((PySem.W.looks_findIn X1 N.ne).here ?_)))))
    refine wpAny_bind (wpAny_askSetting (wpAny_ite ?_))
    have fin : wpAny (model X.prog X.w) X.A (call (.builtin "object.__ne__") ([.ref a] ++ [v]) >>= fun w => pure (some w)) (fun r s' => wpAny (model X.prog X.w) X.A (match r with | some .notImplemented => pure none | none => pure none | some w => pure (some w)) (fun r s' => ∃ w, r = some w ∧ EP X pins σ Q w s') X.xe s') X.xe s := by
      refine wpAny_bind (wpAny_mono body (fun w s' q => wpAny_pure ?_) fun _ _ q => q)
      obtain ⟨b, rfl, q⟩ := q
      exact wpAny_pure ⟨_, rfl, q⟩
    split
    · exact wpAny_bind (wpAny_pure (wpAny_pure (by exact fin)))
    · exact wpAny_tryCatch (wpAny_bind (wpAny_pure (wpAny_pure (by exact fin))))
  show wpAny _ _ (richCompare .NotEq (.ref a) v) _ _ s
  unfold richCompare
  simp only [oneThing_ref]
  refine wpAny_holding (wpAny_bind (wpAny_cRoomFor (by omega) ?_))
  refine wpAny_bind (J.type.here (wpAny_bind (L.here ?_)))
  have last : wpAny (model X.prog X.w) X.A (tryCompare (.ref a) "__ne__" v) (fun r s' => ∃ w, r = some w ∧ EP X pins σ Q w s') X.xe s := one
  split
  · rename_i q
    have e : PySem.W.subIn X.K tb (.ref C) = some false := by
      rcases Bool.or_eq_true_iff.mp hn with e | e
      · rw [beq_iff_eq.mp e] at q
        simp at q
      · exact beq_iff_eq.mp e
    refine wpAny_bind ((PySem.W.looks_subIn X1 e).here ?_)
    simp only [Bool.false_eq_true, if_false]
    refine wpAny_bind (wpAny_mono last (fun r s' z => ?_) fun _ _ e => e)
    obtain ⟨w, rfl, hq⟩ := z
    exact wpAny_pure hq
  · refine wpAny_bind (wpAny_pure ?_)
    simp only [Bool.false_eq_true, if_false]
    refine wpAny_bind (wpAny_mono last (fun r s' z => ?_) fun _ _ e => e)
    obtain ⟨w, rfl, hq⟩ := z
    exact wpAny_pure hq
end
end N0

/-! comprehensions by value; max of a tuple; list(range(..)) -/
namespace N0
open PySem PySem.Spec PyProof.Rows L2 HT
section
variable {prog : Program} {w : World} {A : Around} {E : Value → Shared → Prop} {s : Shared} {Q : Value → Shared → Prop}
theorem iter_intTup {l : Addr} {xs : Array (Int × Tok)} (hl : s.heap.IsTuple l (intItems xs))
    (h : ∀ s₂ : Shared, (∀ b o, s.heap.get? b = some o → s₂.heap.get? b = some o) → (∃ g, s₂ = { s with heap := g }) → (s₂.heap.IsTupleIter s.heap.objs.size l 0 ∧ s₂.heap.IsTuple l (intItems xs)) → (∀ b ∈ [s.heap.objs.size, l], b < s₂.heap.objs.size) → l ≠ s.heap.objs.size → Q (.ref s.heap.objs.size) s₂) :
    wpAny (model prog w) A (pyIter (.ref l)) Q E s := by
  have hlt : l < s.heap.objs.size := by obtain ⟨_, e, _⟩ := hl; exact Heap.lt_size e
  refine wpAny_pyIter_tuple hl (h _ (fun b o e => Heap.get?_push_of_some _ e) ⟨_, rfl⟩ ⟨⟨_, Heap.get?_push_size _ rfl, rfl, rfl⟩, hl.push _⟩ (fun b hb => ?_) (Nat.ne_of_lt hlt))
  show b < (s.heap.push _).objs.size
  rw [Heap.size_push]
  rcases List.mem_cons.mp hb with rfl | hb
  · exact Nat.lt_succ_self _
  · rcases List.mem_cons.mp hb with rfl | hb
    · exact Nat.lt_succ_of_lt hlt
    · cases hb
theorem max_intTup {l : Addr} {xs : Array (Int × Tok)} (hh : A.handled = none) (hl : s.heap.IsTuple l (intItems xs)) (hne : 0 < xs.size)
    (h : ∀ v h' tk, (intItems xs)[argBest (fun i j => decide (numAt xs i > numAt xs j)) (xs.size - 1)]? = some v → (∀ b o, s.heap.get? b = some o → h'.get? b = some o) → Q v { s with heap := h', toks := tk }) :
    wpAny (model prog w) A (call (.builtin "max") [.ref l]) Q E s := by
  refine call_max_walk (iter_intTup hl fun s₂ old e st hfp hlI => ?_)
  obtain ⟨g, rfl⟩ := e
  refine ⟨_, _, _, _, _, _, _, rfl, Walks.tuple (A := A.in1) hh _ l hlI (intItems xs), st, hfp, by simpa [intItems] using hne, CmpOf.ints_gt (numAt xs) (fun _ _ => intItems_at), fun v h' tk hP hk => ?_⟩
  refine h v h' tk (by simpa [intItems] using hP) fun b o e => hk b o (fun hm => ?_) (old b o e)
  rcases List.mem_cons.mp hm with e1 | hm
  · exact absurd (e1 ▸ Heap.lt_size e) (Nat.lt_irrefl _)
  · cases hm
theorem maxT_raw {l : Addr} {its : List Value} {ns : List Int} (hh : A.handled = none) (hl : s.heap.IsTuple l its.toArray) (hi : IntsAre its ns) (hne : 0 < ns.length)
    (h : ∀ h' tk M t', (∀ b o, s.heap.get? b = some o → h'.get? b = some o) → M ∈ ns → (∀ a, a ∈ ns → a ≤ M) → Q (.int M t') { s with heap := h', toks := tk }) : wpAny (model prog w) A (call (.builtin "max") [.ref l]) Q E s := by
  obtain ⟨xs, e⟩ := hi.allInts.items
  have hn : numsOf (intItems xs).toList = ns := by rw [← e]; exact hi.numsOf
  rw [nums_intItems] at hn
  subst hn
  rw [e] at hl
  have hsz : 0 < xs.size := by simpa using hne
  refine max_intTup hh hl hsz fun v h' tk hv hk => ?_
  obtain ⟨t, rfl⟩ := intItems_at hv
  obtain ⟨h1, h2⟩ := argBest_gt (numAt xs) (xs.size - 1)
  refine h h' tk _ t hk ?_ fun a ha => ?_
  · rw [numAt_eq]; exact PySem.getD_mem (by rw [List.length_map, Array.length_toList]; omega)
  · obtain ⟨j, hj, rfl⟩ := mem_getD ha
    rw [List.length_map, Array.length_toList] at hj
    rw [← numAt_eq]; exact h2 j (by omega)
end
section
variable {X : Cx} {K : PySem.W.Frag}
/-- max of a tuple or of a list of integers -/
def rMaxA (K : PySem.W.Frag) : List V → Hp → VK → Prop := fun vs H Q => ∃ (a : Addr) (ns : List Int), vs = [V.ref a] ∧ (SqL K H a (ns.map V.int) ∨ SqT K H a (ns.map V.int)) ∧ 0 < ns.length ∧ ∀ m, m ∈ ns → (∀ y, y ∈ ns → y ≤ m) → Q (.int m) H
theorem cr_maxA (hc : X.calm = true) : CallR X (.builtin "max") (rMaxA X.K) := by
  intro pins s σ H vs us Q I r h
  obtain ⟨a, ns, rfl, hs | hs, hne, q⟩ := h
  · obtain ⟨its, rv, hl, _⟩ := I.list hs
    rw [Vals.ref1 r]
    exact max_raw (I.ok.hd hc) hl.isList rv.ints hne fun h' tk m t' hk h1 h2 => ⟨.int _, H, I.kept hk, ⟨_, rfl⟩, q m h1 h2⟩
  · obtain ⟨its, rv, hl, _⟩ := I.tuple hs
    rw [Vals.ref1 r]
    exact maxT_raw (I.ok.hd hc) hl rv.ints hne fun h' tk m t' hk h1 h2 => ⟨.int _, H, I.kept hk, ⟨_, rfl⟩, q m h1 h2⟩
theorem kcr_maxA (hc : X.calm = true) (h : X.K = K := by rfl) : CallR X (.builtin "max") (rMaxA K) := h ▸ cr_maxA hc
end
section
variable {K : PySem.W.Frag} {H : Hp} {σ : L2.St}
/-- what a loop walks over: xs, each time, the heap left as it is -/
def EvI (wi : TI) (σ : L2.St) (H : Hp) (xs : List V) : Prop := ∀ H1, Same H H1 → ∀ R : It → Hp → Prop, (∀ J H2, Same H1 H2 → Walk J xs.length (fun H => Same H2 H) (YAt xs) → R J H2) → wi σ H1 R
theorem ei_tup {te : TE} {xs : List V} (h : EvS te σ H (fun v H' => ∃ a, v = .ref a ∧ SqT K H' a xs)) : EvI (iTup K te) σ H xs := fun H1 e R r =>
  h H1 e _ fun v H2 e2 ⟨a, ev, ha⟩ => ⟨a, ev, ⟨xs, ha⟩, r _ H2 e2 (walk_tup.mono (fun H' e3 => same_tup e3 ha) fun _ _ _ _ _ _ y => y)⟩
theorem ei_list {te : TE} {xs : List V} (h : EvS te σ H (fun v H' => ∃ a, v = .ref a ∧ SqL K H' a xs)) : EvI (iList K te) σ H xs := fun H1 e R r =>
  h H1 e _ fun v H2 e2 ⟨a, ev, ha⟩ => ⟨a, ev, ⟨xs, ha⟩, r _ H2 e2 (walk_list.mono (fun H' e3 => same_lst e3 ha) fun _ _ _ _ _ _ y => y)⟩
theorem ei_range {te : TE} {n : Nat} (h : EvS te σ H (IsV (.int (n : Int)))) (hn : n ≤ 100000) : EvI (iRng1 (tCons te tNil)) σ H ((List.range n).map fun i => V.int (i : Nat)) := fun H1 e R r =>
  h H1 e _ fun v H2 e2 ev => by
    subst ev
    refine ⟨(n : Int), rfl, by omega, by omega, ?_⟩
    refine r _ H2 e2 ?_
    rw [List.length_map, List.length_range]
    have en : ((n : Int) - 0).toNat = n := by omega
    refine ⟨fun _ _ hi _ => by first | exact hi | (show _ < _; omega), fun _ _ => by first | exact Nat.le_refl _ | (show _ ≤ _; omega), fun i H3 x H4 hi _ y => ⟨y.1, ?_⟩⟩
    rw [List.getElem?_map, List.getElem?_range hi, y.2]
    show some (V.int _) = some (V.int _)
    rw [Int.zero_add]
/-- a comprehension, each item by its own promise that lasts while the new list grows -/
theorem es_lcR {wi : TI} {g : TG} {tt : TT} {te : TE} {vs : List Nat} {xs : List V} {b : V → Bool} {P : V → V → Hp → Prop} (τ : V → L2.St)
    (hP : ∀ x y H H1, Same H H1 → P x y H → P x y H1) (hM : ∀ x y H D zs o, H D = some (.lst zs) → P x y H → P x y (upd H D o))
    (hi : EvI wi σ H xs) (hz : xs.length ≤ 100000) (hg : ∀ x ∈ xs, ∀ H' Q, Q (τ x) H' → g x (wipe σ vs) H' Q) (hw : ∀ x ∈ xs, wipe (τ x) vs = wipe σ vs)
    (ht : ∀ x ∈ xs, EvB tt (τ x) H (b x)) (he : ∀ x ∈ xs, b x = true → EvS te (τ x) H (P x)) :
    EvS (tLc wi g tt te vs) σ H (fun v H' => ∃ (D : Addr) (ys : List V), v = .ref D ∧ H' D = some (.lst ys) ∧ H D = none ∧ ys.length = (xs.filter b).length ∧ ∀ (i : Nat) (x y : V), (xs.filter b)[i]? = some x → ys[i]? = some y → P x y H') := fun H1 e Q q =>
  hi H1 e _ fun J H2 e2 W D hD => by
    have hD0 : H D = none := by
      cases z : H D with
      | none => rfl
      | some o => rw [(Same.trans e e2) _ _ z] at hD; cases hD
    refine lc_it W (fun i H' => Same H2 H' ∧ ∃ ys : List V, H' D = some (.lst ys) ∧ ys.length = ((xs.take i).filter b).length ∧ ∀ (j : Nat) (x y : V), ((xs.take i).filter b)[j]? = some x → ys[j]? = some y → P x y H') ⟨new_same hD, [], upd_same, rfl, fun j x y _ z => nomatch z⟩ (fun i H' _ p => p.1) (fun i x H' H'' hi' p y => ?_) fun H' p => ?_
    · obtain ⟨e3, ys, d3, yl, hp⟩ := p
      obtain ⟨rfl, hx⟩ := y
      have hm : x ∈ xs := List.mem_of_getElem? hx
      have et : xs.take (i + 1) = xs.take i ++ [x] := by
        rw [List.take_succ, hx]
        rfl
      refine hg x hm _ _ ⟨hw x hm, ht x hm _ (Same.trans (Same.trans e e2) e3) _ fun H3 e4 => ?_⟩
      by_cases hb : b x = true
      · rw [if_pos hb]
        refine he x hm hb _ (Same.trans (Same.trans (Same.trans e e2) e3) e4) _ fun v H4 e5 pv => ?_
        have d4 := (Same.trans e4 e5) _ _ d3
        have ef : (xs.take (i + 1)).filter b = (xs.take i).filter b ++ [x] := by
          rw [et, List.filter_append]
          congr 1
          simp [hb]
        refine ⟨ys, d4, (Nat.lt_of_le_of_lt (m := 100000) ?_ (by decide)), same_mut (Same.trans (Same.trans e3 e4) e5) hD, ys ++ [v], upd_same, by rw [ef, List.length_append, List.length_append, yl]; rfl, fun j u z hu hz' => ?_⟩
        · rw [yl]
          refine Nat.le_trans (List.length_filter_le _ _) ?_
          rw [List.length_take]
          omega
        · refine hM _ _ _ _ _ _ d4 ?_
          rw [ef] at hu
          by_cases hj : j < ys.length
          · rw [List.getElem?_append_left hj] at hz'
            rw [List.getElem?_append_left (by omega)] at hu
            exact hP _ _ _ _ (Same.trans e4 e5) (hp j u z hu hz')
          · rw [List.getElem?_append_right (by omega)] at hz' hu
            have ez : j - ys.length = 0 := by
              have := (List.getElem?_eq_some_iff.mp hz').1
              simp at this
              omega
            have ez2 : j - ((xs.take i).filter b).length = 0 := by omega
            rw [ez] at hz'
            rw [ez2] at hu
            cases hz'
            cases hu
            exact pv
      · rw [if_neg hb]
        have ef : (xs.take (i + 1)).filter b = (xs.take i).filter b := by
          rw [et, List.filter_append]
          have : [x].filter b = [] := by simp [hb]
          rw [this, List.append_nil]
        refine ⟨Same.trans e3 e4, ys, e4 _ _ d3, by rw [ef]; exact yl, fun j u z hu hz' => ?_⟩
        rw [ef] at hu
        exact hP _ _ _ _ e4 (hp j u z hu hz')
    · obtain ⟨e3, ys, d3, yl, hp⟩ := p
      rw [List.take_length] at yl hp
      exact q _ _ (Same.trans e2 e3) ⟨D, ys, rfl, d3, hD0, yl, hp⟩
theorem list_map_of {xs ys : List V} {f : V → V} (hl : ys.length = xs.length) (h : ∀ (i : Nat) (x y : V), xs[i]? = some x → ys[i]? = some y → y = f x) : ys = xs.map f := by
  refine List.ext_getElem? fun i => ?_
  rw [List.getElem?_map]
  by_cases hi : i < ys.length
  · have e1 := List.getElem?_eq_getElem hi
    have e2 := List.getElem?_eq_getElem (show i < xs.length by omega)
    rw [e1, e2, h i _ _ e2 e1]
    rfl
  · rw [List.getElem?_eq_none (by omega), List.getElem?_eq_none (by omega)]
    rfl
/-- a comprehension whose items are plain values -/
theorem es_lcV {wi : TI} {g : TG} {tt : TT} {te : TE} {vs : List Nat} {xs : List V} {b : V → Bool} (f : V → V) (τ : V → L2.St)
    (hi : EvI wi σ H xs) (hz : xs.length ≤ 100000) (hg : ∀ x ∈ xs, ∀ H' Q, Q (τ x) H' → g x (wipe σ vs) H' Q) (hw : ∀ x ∈ xs, wipe (τ x) vs = wipe σ vs)
    (ht : ∀ x ∈ xs, EvB tt (τ x) H (b x)) (he : ∀ x ∈ xs, b x = true → EvS te (τ x) H (IsV (f x))) :
    EvS (tLc wi g tt te vs) σ H (fun v H' => ∃ D : Addr, v = .ref D ∧ H' D = some (.lst ((xs.filter b).map f)) ∧ H D = none) := fun H1 e Q q =>
  es_lcR (P := fun x y _ => y = f x) τ (fun _ _ _ _ _ h => h) (fun _ _ _ _ _ _ _ h => h) hi hz hg hw ht he H1 e _ fun v H2 e2 ⟨D, ys, ev, d, n, hl, hp⟩ =>
    q v H2 e2 ⟨D, ev, by rw [d, list_map_of hl hp], n⟩
theorem eb_yes : EvB tYes σ H true := fun H1 e Q q => q H1 (Same.refl _)
/-- tuple(..) of a list that was made -/
theorem es_tupL {te : TE} {ys : List V} (h : EvS te σ H (fun v H' => ∃ D : Addr, v = .ref D ∧ H' D = some (.lst ys) ∧ H D = none)) : EvS (tCB (rTupOf K) (tCons te tNil)) σ H (fun v H' => ∃ p, v = .ref p ∧ SqT K H' p ys) := fun H1 e Q q =>
  h H1 e _ fun v H2 e2 ⟨D, ev, d, _⟩ => ⟨D, ys, by rw [ev], .inl ⟨lst_of d, fun l hl => q _ _ (Same.trans e2 (new_same hl)) ⟨l, rfl, tup_of upd_same⟩⟩⟩
theorem es_seqT {i : Nat} {a : Addr} {xs : List V} (hv : σ[i]? = some (some (.ref a))) (h : SqT K H a xs) : EvS (tVar i) σ H (fun v H' => ∃ a, v = .ref a ∧ SqT K H' a xs) := evs_var hv fun H1 e => ⟨a, rfl, same_tup e h⟩
theorem es_seqL {i : Nat} {a : Addr} {xs : List V} (hv : σ[i]? = some (some (.ref a))) (h : SqL K H a xs) : EvS (tVar i) σ H (fun v H' => ∃ a, v = .ref a ∧ SqL K H' a xs) := evs_var hv fun H1 e => ⟨a, rfl, same_lst e h⟩
/-- a plain call: a def's promise that leaves the heap as it was and gives v -/
theorem es_ret {te : TE} {P : V → Hp → Prop} (h : EvS te σ H P) {D : Ends} (q : ∀ v H', Same H H' → P v H' → D.rt v H') : tRet te D σ H := h H (Same.refl _) _ fun v H2 e2 p => q v H2 e2 p
theorem es_ixSq {ta ti : TE} {xs : List V} {i : Int} {x : V} (ha : EvS ta σ H (fun v H' => ∃ a, v = .ref a ∧ SqT K H' a xs)) (hi : EvS ti σ H (IsV (.int i))) (hx : atI xs i = some x) : EvS (tOp (rIxT K) ta ti) σ H (IsV x) := fun H1 e Q q =>
  ha H1 e _ fun v H2 e2 ⟨a, ev, h⟩ => hi H2 (Same.trans e e2) _ fun u H3 e3 eu => by
    subst ev
    subst eu
    exact ⟨a, _, _, _, rfl, rfl, same_tup e3 h, hx, q _ _ (Same.trans e2 e3) rfl⟩
/-- arguments by their exact values -/
def EvV (ta : TA) (σ : L2.St) (H : Hp) (us : List V) : Prop := ∀ H1, Same H H1 → ∀ Q : List V → Hp → Prop, (∀ H2, Same H1 H2 → Q us H2) → ta σ H1 Q
theorem ev0 : EvV tNil σ H [] := fun H1 e Q q => q H1 (Same.refl _)
theorem evc {te : TE} {ta : TA} {v : V} {us : List V} (h : EvS te σ H (IsV v)) (h2 : EvV ta σ H us) : EvV (tCons te ta) σ H (v :: us) := fun H1 e Q q =>
  h H1 e _ fun x H2 e2 ex => h2 H2 (Same.trans e e2) _ fun H3 e3 => by
    subst ex
    exact q H3 (Same.trans e2 e3)
/-- a call by a promise, its arguments by their values -/
theorem es_fn {sp : Sp} {ta : TA} {us : List V} {P : V → Hp → Prop} (h : EvV ta σ H us) (hs : ∀ H1, Same H H1 → ∀ Q : VK, (∀ v H2, Same H1 H2 → P v H2 → Q v H2) → sp us H1 Q E0) : EvS (tFn sp ta) σ H P := fun H1 e Q q =>
  h H1 e _ fun H2 e2 => hs H2 (Same.trans e e2) _ fun v H3 e3 p => q v H3 (Same.trans e2 e3) p
theorem es_imp {te : TE} {P P' : V → Hp → Prop} (h : EvS te σ H P) (i : ∀ v H', Same H H' → P v H' → P' v H') : EvS te σ H P' := fun H1 e Q q => h H1 e _ fun v H2 e2 p => q v H2 e2 (i v H2 (Same.trans e e2) p)
abbrev NewL (H : Hp) (ys : List V) : V → Hp → Prop := fun v H' => ∃ D : Addr, v = .ref D ∧ H' D = some (.lst ys) ∧ H D = none
theorem es_rg2 {ta tb : TE} {i j : Int} (ha : EvS ta σ H (IsV (.int i))) (hb : EvS tb σ H (IsV (.int j))) (ok : RgOk i j) : EvS (tLstRg (tRg2 ta tb)) σ H (NewL H (rgV i j)) := fun H1 e Q q =>
  ha H1 e _ fun v H2 e2 ev => hb H2 (Same.trans e e2) _ fun u H3 e3 eu => ⟨i, j, ev, eu, ok, fun D hD => q _ _ (Same.trans (Same.trans e2 e3) (new_same hD)) ⟨D, rfl, upd_same, Same.free (Same.trans (Same.trans e e2) e3) hD⟩⟩
theorem es_rg1 {ta : TE} {j : Int} (ha : EvS ta σ H (IsV (.int j))) (ok : RgOk 0 j) : EvS (tLstRg (tRg1 ta)) σ H (NewL H (rgV 0 j)) := fun H1 e Q q =>
  ha H1 e _ fun v H2 e2 ev => ⟨j, ev, ok, fun D hD => q _ _ (Same.trans e2 (new_same hD)) ⟨D, rfl, upd_same, Same.free (Same.trans e e2) hD⟩⟩
theorem es_lenSq {te : TE} {xs : List V} (h : EvS te σ H (fun v H' => ∃ a, v = .ref a ∧ SqT K H' a xs)) : EvS (tCB (N0.rLen K) (tCons te tNil)) σ H (IsV (.int (xs.length : Int))) := fun H1 e Q q =>
  h H1 e _ fun v H2 e2 ⟨a, ea, h⟩ => ⟨a, _, by rw [ea], .inr h, q _ _ e2 rfl⟩
theorem es_lenL {te : TE} {xs : List V} (h : EvS te σ H (fun v H' => ∃ a, v = .ref a ∧ SqL K H' a xs)) : EvS (tCB (N0.rLen K) (tCons te tNil)) σ H (IsV (.int (xs.length : Int))) := fun H1 e Q q =>
  h H1 e _ fun v H2 e2 ⟨a, ea, h⟩ => ⟨a, _, by rw [ea], .inl h, q _ _ e2 rfl⟩
theorem es_catL {ta tb : TE} {xs ys : List V} (ha : EvS ta σ H (NewL H xs)) (hb : EvS tb σ H (NewL H ys)) (hz : xs.length + ys.length ≤ 100000) : EvS (tOp rCat ta tb) σ H (NewL H (xs ++ ys)) := fun H1 e Q q =>
  ha H1 e _ fun v H2 e2 ⟨a, ea, da, na⟩ => hb H2 (Same.trans e e2) _ fun u H3 e3 ⟨b, eb, db, nb⟩ =>
    ⟨a, b, xs, ys, ea, eb, e3 _ _ da, db, Nat.le_trans hz (by decide), fun D hD => q _ _ (Same.trans (Same.trans e2 e3) (new_same hD)) ⟨D, rfl, upd_same, Same.free (Same.trans (Same.trans e e2) e3) hD⟩⟩
def bI (c : Int → Bool) : V → Bool
  | .int i => c i
  | _ => false
def fI (g : Int → V) : V → V
  | .int i => g i
  | v => v
theorem filt_ints (c : Int → Bool) (g : Int → V) : ∀ ns : List Int, ((ns.map V.int).filter (bI c)).map (fI g) = (ns.filter c).map g
  | [] => rfl
  | n :: ns => by
    rw [List.map_cons, List.filter_cons, List.filter_cons]
    show List.map (fI g) (if c n = true then _ else _) = _
    split
    · rw [List.map_cons, List.map_cons, filt_ints c g ns]
      rfl
    · exact filt_ints c g ns
theorem mem_ints {ns : List Int} {x : V} (h : x ∈ ns.map V.int) : ∃ i ∈ ns, x = .int i := by
  obtain ⟨i, h1, h2⟩ := List.mem_map.mp h
  exact ⟨i, h1, h2.symm⟩
/-- a comprehension over integers -/
theorem es_lcI {wi : TI} {g : TG} {tt : TT} {te : TE} {vs : List Nat} {ns : List Int} (c : Int → Bool) (f : Int → V) (τ : V → L2.St)
    (hi : EvI wi σ H (ns.map V.int)) (hz : ns.length ≤ 100000) (hg : ∀ i ∈ ns, ∀ H' Q, Q (τ (.int i)) H' → g (.int i) (wipe σ vs) H' Q) (hw : ∀ i ∈ ns, wipe (τ (.int i)) vs = wipe σ vs)
    (ht : ∀ i ∈ ns, EvB tt (τ (.int i)) H (c i)) (he : ∀ i ∈ ns, c i = true → EvS te (τ (.int i)) H (IsV (f i))) : EvS (tLc wi g tt te vs) σ H (NewL H ((ns.filter c).map f)) := by
  have := es_lcV (b := bI c) (fI f) τ hi (by rw [List.length_map]; exact hz) (fun x hx => by obtain ⟨i, h, rfl⟩ := mem_ints hx; exact hg i h) (fun x hx => by obtain ⟨i, h, rfl⟩ := mem_ints hx; exact hw i h) (fun x hx => by obtain ⟨i, h, rfl⟩ := mem_ints hx; exact ht i h) (fun x hx hb => by obtain ⟨i, h, rfl⟩ := mem_ints hx; exact he i h hb)
  rwa [filt_ints] at this
/-- a comprehension without a test, each item by the place -/
theorem es_lcN {wi : TI} {g : TG} {te : TE} {vs : List Nat} {xs : List V} {P : Nat → V → Hp → Prop} (τ : V → L2.St)
    (hP : ∀ i y H H1, Same H H1 → P i y H → P i y H1) (hM : ∀ i y H D zs o, H D = some (.lst zs) → P i y H → P i y (upd H D o))
    (hi : EvI wi σ H xs) (hz : xs.length ≤ 100000) (hg : ∀ x ∈ xs, ∀ H' Q, Q (τ x) H' → g x (wipe σ vs) H' Q) (hw : ∀ x ∈ xs, wipe (τ x) vs = wipe σ vs)
    (he : ∀ (i : Nat) (x : V), xs[i]? = some x → EvS te (τ x) H (P i)) :
    EvS (tLc wi g tYes te vs) σ H (fun v H' => ∃ (D : Addr) (ys : List V), v = .ref D ∧ H' D = some (.lst ys) ∧ H D = none ∧ ys.length = xs.length ∧ ∀ (i : Nat) (y : V), ys[i]? = some y → P i y H') := fun H1 e Q q =>
  hi H1 e _ fun J H2 e2 W D hD => by
    have hD0 : H D = none := by
      cases z : H D with
      | none => rfl
      | some o => rw [(Same.trans e e2) _ _ z] at hD; cases hD
    refine lc_it W (fun i H' => Same H2 H' ∧ i ≤ xs.length ∧ ∃ ys : List V, H' D = some (.lst ys) ∧ ys.length = i ∧ ∀ (j : Nat) (y : V), ys[j]? = some y → P j y H') ⟨new_same hD, Nat.zero_le _, [], upd_same, rfl, fun j y z => nomatch z⟩ (fun i H' _ p => p.1) (fun i x H' H'' hi' p y => ?_) fun H' p => ?_
    · obtain ⟨e3, _, ys, d3, yl, hp⟩ := p
      obtain ⟨rfl, hx⟩ := y
      have hm : x ∈ xs := List.mem_of_getElem? hx
      refine hg x hm _ _ ⟨hw x hm, ?_⟩
      refine he i x hx _ (Same.trans (Same.trans e e2) e3) _ fun v H4 e5 pv => ?_
      have d4 := e5 _ _ d3
      refine ⟨ys, d4, (Nat.lt_of_le_of_lt (m := 100000) (by omega) (by decide)), same_mut (Same.trans e3 e5) hD, hi', ys ++ [v], upd_same, by rw [List.length_append, yl]; rfl, fun j z hz' => ?_⟩
      refine hM _ _ _ _ _ _ d4 ?_
      by_cases hj : j < ys.length
      · rw [List.getElem?_append_left hj] at hz'
        exact hP _ _ _ _ e5 (hp j z hz')
      · rw [List.getElem?_append_right (by omega)] at hz'
        have ez : j - ys.length = 0 := by
          have := (List.getElem?_eq_some_iff.mp hz').1
          simp at this
          omega
        rw [ez] at hz'
        cases hz'
        have : j = i := by omega
        subst this
        exact pv
    · obtain ⟨e3, _, ys, d3, yl, hp⟩ := p
      exact q _ _ (Same.trans e2 e3) ⟨D, ys, rfl, d3, hD0, yl, hp⟩
/-- a call of a built-in with one argument -/
theorem es_cb1 {r : List V → Hp → VK → Prop} {te : TE} {P P' : V → Hp → Prop} (h : EvS te σ H P) (hr : ∀ v H1, Same H H1 → P v H1 → ∀ Q : VK, (∀ u H2, Same H1 H2 → P' u H2 → Q u H2) → r [v] H1 Q) : EvS (tCB r (tCons te tNil)) σ H P' := fun H1 e Q q =>
  h H1 e _ fun v H2 e2 p => hr v H2 (Same.trans e e2) p Q fun u H3 e3 p' => q u H3 (Same.trans e2 e3) p'
/-- the same from a heap on, the slots by the place, the target of any form -/
theorem lcN_core {J : It} {g : TG} {te : TE} {vs : List Nat} {xs : List V} {P : Nat → V → Hp → Prop} {Q : VK} {H2 : Hp} (τ : Nat → L2.St) (W : Walk J xs.length (fun H => Same H2 H) (YAt xs))
    (hP : ∀ i y H H1, Same H H1 → P i y H → P i y H1) (hM : ∀ i y H D zs o, H D = some (.lst zs) → P i y H → P i y (upd H D o))
    (hz : xs.length ≤ 100000) (hg : ∀ (i : Nat) (x : V), xs[i]? = some x → ∀ H', Same H2 H' → ∀ Q, Q (τ i) H' → g x (wipe σ vs) H' Q) (hw : ∀ i, i < xs.length → wipe (τ i) vs = wipe σ vs)
    (he : ∀ (i : Nat) (x : V), xs[i]? = some x → EvS te (τ i) H2 (P i))
    (q : ∀ (D : Addr) (ys : List V) (H3 : Hp), Same H2 H3 → H3 D = some (.lst ys) → H2 D = none → ys.length = xs.length → (∀ (i : Nat) (y : V), ys[i]? = some y → P i y H3) → Q (.ref D) H3) :
    ∀ D, H2 D = none → ∃ W : Nat → Nat → Hp → Prop, (∃ m, W 0 m (upd H2 D (.lst []))) ∧ ∀ i m H, W i m H →
      (J.stop i H ∧ Q (.ref D) H) ∨ (J.go i H ∧ ∃ Nx : Hp → Prop, (∀ H', Nx H' → ∃ m', m' < m ∧ W (i + 1) m' H') ∧ ∀ x H', J.yld i H x H' → g x (wipe σ vs) H' fun σ2 H2 => wipe σ2 vs = wipe σ vs ∧ tYes σ2 H2 fun b H3 =>
        if b = true then te σ2 H3 fun y H4 => ∃ acc, H4 D = some (.lst acc) ∧ acc.length < sizeLine ∧ Nx (upd H4 D (.lst (acc ++ [y]))) else Nx H3) := fun D hD => by
  refine lc_it W (fun i H' => Same H2 H' ∧ i ≤ xs.length ∧ ∃ ys : List V, H' D = some (.lst ys) ∧ ys.length = i ∧ ∀ (j : Nat) (y : V), ys[j]? = some y → P j y H') ⟨new_same hD, Nat.zero_le _, [], upd_same, rfl, fun j y z => nomatch z⟩ (fun i H' _ p => p.1) (fun i x H' H'' hi' p y => ?_) fun H' p => ?_
  · obtain ⟨e3, _, ys, d3, yl, hp⟩ := p
    obtain ⟨rfl, hx⟩ := y
    refine hg i x hx _ e3 _ ⟨hw i hi', ?_⟩
    refine he i x hx _ e3 _ fun v H4 e5 pv => ?_
    have d4 := e5 _ _ d3
    refine ⟨ys, d4, (Nat.lt_of_le_of_lt (m := 100000) (by omega) (by decide)), same_mut (Same.trans e3 e5) hD, hi', ys ++ [v], upd_same, by rw [List.length_append, yl]; rfl, fun j z hz' => ?_⟩
    refine hM _ _ _ _ _ _ d4 ?_
    by_cases hj : j < ys.length
    · rw [List.getElem?_append_left hj] at hz'
      exact hP _ _ _ _ e5 (hp j z hz')
    · rw [List.getElem?_append_right (by omega)] at hz'
      have ez : j - ys.length = 0 := by
        have := (List.getElem?_eq_some_iff.mp hz').1
        simp at this
        omega
      rw [ez] at hz'
      cases hz'
      have : j = i := by omega
      subst this
      exact pv
  · obtain ⟨e3, _, ys, d3, yl, hp⟩ := p
    exact q D ys _ e3 d3 hD yl hp
theorem walk_listS {a : Addr} {xs : List V} (h : SqL K H a xs) : Walk (Itl K a) xs.length (fun H' => Same H H') (YAt xs) := walk_list.mono (fun H' e3 => same_lst e3 h) fun _ _ _ _ _ _ y => y
theorem walk_tupS {a : Addr} {xs : List V} (h : SqT K H a xs) : Walk (Itt K a) xs.length (fun H' => Same H H') (YAt xs) := walk_tup.mono (fun H' e3 => same_tup e3 h) fun _ _ _ _ _ _ y => y
theorem tup_mutl {H : Hp} {D a : Addr} {ys xs : List V} {o : HO} (d : H D = some (.lst ys)) (h : SqT K H a xs) : SqT K (upd H D o) a xs := by
  have ne : ∀ {u : HO}, H a = some u → (∀ ys, u ≠ .lst ys) → upd H D o a = some u := fun h hn => by
    rw [upd_ne (fun q => by rw [q, d] at h; cases h; exact hn _ rfl)]
    exact h
  rcases h with (h | ⟨u, h⟩) | h
  · exact .inl (.inl (ne h fun _ q => nomatch q))
  · exact .inl (.inr ⟨u, ne h fun _ q => nomatch q⟩)
  · exact .inr h
end
end N0

/-! own classes by promises: methods, properties, making, fields; by value -/
namespace N0
open PySem PySem.Spec PyProof.Rows L2 HT
/-- the address that a name has at the top -/
def cA (mg : Str → Option Value) (x : Str) : Addr := match mg x with
  | some (.ref C) => C
  | _ => 0
theorem rel_ref {a : Addr} : RelV (.ref a) (.ref a) := rfl
structure Mt (P : Program) (w : World) (K : PySem.W.Frag) (mg : Str → Option Value) (base : Heap) (k : Nat) (C : Addr) (m : Str) (sp : Sp) : Prop where
  ex : ∃ (f : Addr) (fd : FuncData) (ps : List Str), Meth K C m f ∧ FnOk P w K mg base CX0 k f fd ps sp ∧ Binds K fd ps []
structure Pr (P : Program) (w : World) (K : PySem.W.Frag) (mg : Str → Option Value) (base : Heap) (k : Nat) (C : Addr) (m : Str) (sp : Sp) : Prop where
  ex : ∃ (f p : Addr) (fd : FuncData) (ps : List Str), PropOf K C m p f ∧ FnOk P w K mg base CX0 k f fd ps sp ∧ Binds K fd ps []
structure Mr (P : Program) (w : World) (K : PySem.W.Frag) (mg : Str → Option Value) (base : Heap) (k : Nat) (x : Str) (C : Addr) (sp : Sp) : Prop where
  ex : ∃ (f : Addr) (fd : FuncData) (ps : List Str), Mk K C f ∧ FnOk P w K mg base CX0 k f fd ps sp ∧ Binds K fd ps []
  at_ : mg x = some (.ref C)
structure Ow (P : Program) (w : World) (K : PySem.W.Frag) (mg : Str → Option Value) (base : Heap) (k : Nat) (C : Addr) (m : Str) (sp : Sp) : Prop where
  ex : ∃ (f : Addr) (fd : FuncData) (ps : List Str), Own K C m f ∧ FnOk P w K mg base CX0 k f fd ps sp ∧ Binds K fd ps []
section
variable {X : Cx} {C : Addr} {m x : Str} {sp : Sp} {k j : Nat} {o e : Expr} {es : List Expr} {ta : TE} {t : TA} {apos pos p : Pos}
theorem pe_m {pl : Sem Bool} (M : Mt X.prog X.w X.K X.mg X.base k C m sp) (c : Cls X.K C) (hr : Room j X.A) (hk : k ≤ j) (he : PE X o ta) (ha : PA X (e :: es) t)
    (hst : starEach (e :: es) X.env = (false, eval e X.env) :: starEach es X.env := by rfl) (hpl : (backTo pos (starEach es X.env)).any (·.1) = false := by rfl)
    (ht : eval (.Call (.Attribute o m apos) (e :: es) [] pos) X.env = (do
      let ov ← eval o X.env
      standAt apos.atName
      let (f, first) ← holding [ov] (getMethod ov m pl)
      callWith pos f first (backTo pos (starEach (e :: es) X.env)) (backToKw pos (keywordEach [] X.env))) := by rfl) : PE X (.Call (.Attribute o m apos) (e :: es) [] pos) (tMeth C m sp [] E0 ta t) := by
  obtain ⟨f, fd, ps, hm, F, hb⟩ := M.ex
  exact pe_meth (pl := pl) he c hm F (hr.mono hk) hb .nil pass0 ha hst hpl ht
theorem pe_m0 {pl : Sem Bool} (M : Mt X.prog X.w X.K X.mg X.base k C m sp) (c : Cls X.K C) (hr : Room j X.A) (hk : k ≤ j) (he : PE X o ta)
    (ht : eval (.Call (.Attribute o m apos) [] [] pos) X.env = (do
      let ov ← eval o X.env
      standAt apos.atName
      let (f, first) ← holding [ov] (getMethod ov m pl)
      callWith pos f first (backTo pos (starEach [] X.env)) (backToKw pos (keywordEach [] X.env))) := by rfl) : PE X (.Call (.Attribute o m apos) [] [] pos) (tMeth C m sp [] E0 ta tNil) := by
  obtain ⟨f, fd, ps, hm, F, hb⟩ := M.ex
  exact pe_meth0 (pl := pl) he c hm F (hr.mono hk) hb .nil pass0 ht
theorem pe_p (M : Pr X.prog X.w X.K X.mg X.base k C m sp) (c : Cls X.K C) (hr : Room j X.A) (hk : k + 1 ≤ j) (he : PE X e ta) (hab : attributeBase e m X.env (eval e X.env) = eval e X.env := by rfl) : PE X (.Attribute e m pos) (tProp C sp [] E0 ta) := by
  obtain ⟨f, p, fd, ps, hp, F, hb⟩ := M.ex
  exact pe_prop he c hp F (hr.mono hk) hb .nil pass0 hab
theorem pe_k (M : Mr X.prog X.w X.K X.mg X.base k x C sp) (hr : Room j X.A) (hk : k + 1 ≤ j) (hg : Gl X x) (ha : PA X (e :: es) t) (hdb : (x == ("__debug__" : Str)) = false := by decide)
    (he : starEach (e :: es) X.env = (false, eval e X.env) :: starEach es X.env := by rfl) (hpl : (backTo pos (starEach es X.env)).any (·.1) = false := by rfl) : PE X (.Call (.Name x p) (e :: es) [] pos) (tMake C sp [] E0 t) := by
  obtain ⟨f, fd, ps, hm, F, hb⟩ := M.ex
  exact pe_make hm F (hr.mono hk) hg M.at_ hb .nil pass0 ha hdb he hpl
theorem kcr_ownLen (M : Ow X.prog X.w X.K X.mg X.base k C "__len__" sp) (hr : Room j X.A) (hk : k + 1 ≤ j) : CallR X (.builtin "len") (rOwnLen C sp) := by
  obtain ⟨f, fd, ps, hm, F, hb⟩ := M.ex
  exact cr_ownLen F hb hm (hr.mono hk)
theorem kcr_ownStr (M : Ow X.prog X.w X.K X.mg X.base k C "__str__" sp) (hr : Room j X.A) (hk : k + 2 ≤ j) : CallR X (.type "str") (rOwnStr C sp) := by
  obtain ⟨f, fd, ps, hm, F, hb⟩ := M.ex
  exact cr_ownStr F hb hm (hr.mono hk)
theorem kop_ownEq {K : PySem.W.Frag} (M : Ow X.prog X.w X.K X.mg X.base k C "__eq__" sp) (hr : Room j X.A) (hk : k ≤ j) (h : X.K = K := by rfl) : OpR X (compareOp .Eq) (rOwnEq false K C sp) := by
  subst h
  obtain ⟨f, fd, ps, hm, F, hb⟩ := M.ex
  exact op_ownEq F hb hm (hr.mono hk)
theorem kop_ownNe {K : PySem.W.Frag} (M : Ow X.prog X.w X.K X.mg X.base k C "__eq__" sp) (N : OwnNe X.K C) (hr : Room j X.A) (hk : k + 1 ≤ j) (h : X.K = K := by rfl) : OpR X (compareOp .NotEq) (rOwnEq true K C sp) := by
  subst h
  obtain ⟨f, fd, ps, hm, F, hb⟩ := M.ex
  exact op_ownNe F hb hm N (hr.mono hk)
theorem kpe_fld {K : PySem.W.Frag} (he : PE X e ta) (hb : attributeBase e m X.env (eval e X.env) = eval e X.env := by rfl) (h : X.K = K := by rfl) : PE X (.Attribute e m pos) (tFld K ta m) := h ▸ pe_fld he hb
end
section
variable {K : PySem.W.Frag} {H : Hp} {σ : L2.St}
/-- an object of the class with these attributes -/
def Ob (C : Addr) (fs : List (Str × V)) (H : Hp) (a : Addr) : Prop := ∃ dx, H a = some (.ins C dx fs)
theorem ob_same {H1 : Hp} {C a : Addr} {fs : List (Str × V)} (e : Same H H1) (h : Ob C fs H a) : Ob C fs H1 a := by
  obtain ⟨dx, h⟩ := h
  exact ⟨dx, e _ _ h⟩
theorem es_m {ta : TE} {t : TA} {C a : Addr} {fs : List (Str × V)} {m : Str} {sp : Sp} {us : List V} {P : V → Hp → Prop} (ho : EvS ta σ H (IsV (.ref a))) (hob : Ob C fs H a) (hl : fs.lookup m = none) (hv : EvV t σ H us)
    (hs : ∀ H1, Same H H1 → ∀ Q : VK, (∀ v H2, Same H1 H2 → P v H2 → Q v H2) → sp (.ref a :: us) H1 Q E0) : EvS (tMeth C m sp [] E0 ta t) σ H P := fun H1 e Q q =>
  ho H1 e _ fun v H2 e2 ev => by
    subst ev
    obtain ⟨dx, ea⟩ := ob_same (Same.trans e e2) hob
    refine ⟨a, dx, fs, rfl, ea, hl, hv H2 (Same.trans e e2) _ fun H3 e3 => ?_⟩
    rw [List.append_nil]
    exact hs H3 (Same.trans (Same.trans e e2) e3) _ fun v H4 e4 p => q v H4 (Same.trans (Same.trans e2 e3) e4) p
theorem es_p {ta : TE} {C a : Addr} {fs : List (Str × V)} {sp : Sp} {P : V → Hp → Prop} (ho : EvS ta σ H (IsV (.ref a))) (hob : Ob C fs H a)
    (hs : ∀ H1, Same H H1 → ∀ Q : VK, (∀ v H2, Same H1 H2 → P v H2 → Q v H2) → sp [.ref a] H1 Q E0) : EvS (tProp C sp [] E0 ta) σ H P := fun H1 e Q q =>
  ho H1 e _ fun v H2 e2 ev => by
    subst ev
    obtain ⟨dx, ea⟩ := ob_same (Same.trans e e2) hob
    exact ⟨a, dx, fs, rfl, ea, hs H2 (Same.trans e e2) _ fun v H4 e4 p => q v H4 (Same.trans e2 e4) p⟩
theorem es_fld {ta : TE} {C a : Addr} {fs : List (Str × V)} {f : Str} {v : V} (ho : EvS ta σ H (IsV (.ref a))) (hob : Ob C fs H a) (c : Cls K C) (n : NoAttr K C f) (hl : fs.lookup f = some v) : EvS (tFld K ta f) σ H (IsV v) := fun H1 e Q q =>
  ho H1 e _ fun u H2 e2 ev => by
    subst ev
    obtain ⟨dx, ea⟩ := ob_same (Same.trans e e2) hob
    exact ⟨a, C, dx, fs, v, rfl, ea, c, n, hl, q v H2 e2 rfl⟩
end
end N0

/-! iter(tuple) as a value; list(o) of an own class whose __iter__ gives such, with its own __len__ -/
namespace N0
open PySem PySem.Spec PyProof.Rows L2 HT
theorem bo_iter : bootBuiltins "iter" = some (.builtin "iter") := by decide +kernel
section
variable {prog : Program} {w : World} {A : Around} {E : Value → Shared → Prop} {s : Shared} {it l : Addr} {i : Nat} {items : Array Value}
theorem call_iterRaw {Q : Value → Shared → Prop} (hl : s.heap.IsTuple l items) (h : Q (.ref s.heap.objs.size) { s with heap := s.heap.push { cls := .type "tuple_iterator", data := .fields #[.ref l, .int 0 0] } }) : wpAny (model prog w) A (call (.builtin "iter") [.ref l]) Q E s := by
  refine Calls.call_function_entry (by decide +kernel) (by decide +kernel) PySem.W.kdk_entry_iter (PySem.W.kdk_args_iter _) ?_
  unfold Builtin.«iter»
  refine wpAny_bind (m := someArgs "iter" 1 2 _) (wpAny_of_eq (a := [Value.ref l]) (by first | rfl | kernel_rfl!) ?_)
  show wpAny _ _ (pyIter (.ref l) >>= _) _ _ _
  refine wpAny_bind (wpAny_pyIter_tuple hl ?_)
  exact wpAny_pure ⟨_, rfl, h⟩
theorem next_end {Q : Option Value → Shared → Prop} (hh : A.handled = none) (hit : s.heap.IsTupleIter it l i) (ht : s.heap.IsTuple l items) (hx : items[i]? = none)
    (hQ : ∀ h', Heap.ExtBut it s.heap h' → (∃ u, h'.get? it = some u) → Q none { s with heap := h' }) : wpAny (model prog w) A (pyNext (.ref it)) Q E s := by
  obtain ⟨o, ho, hc, hd⟩ := id hit
  obtain ⟨ol, hol, _, nl, hdl⟩ := ht
  unfold pyNext
  refine wpAny_bind (wpAny_attempt (wpAny_callSpecial?_slot (name := Str.ofString "__next__") hit.typeIs F.slot_tuple_iterator_next
    (wpAny_call_entry F.slot_tuple_iterator_next hit.typeIs F.entry_tuple_iterator_next ?_ (F.args_tuple_iterator_next_1 _))))
  show wpAny _ _ (field (.ref it) 0 >>= _) _ _ s
  refine wpAny_bind (wpAny_field ho hd (x := .ref l) rfl ?_)
  show wpAny _ _ (if (Value.ref l == Value.none) = true then _ else _) _ _ s
  rw [if_neg (show ¬ ((Value.ref l == Value.none) = true) from Bool.false_ne_true)]
  show wpAny _ _ (field (.ref it) 1 >>= _) _ _ s
  refine wpAny_bind (wpAny_field ho hd (x := .int i 0) rfl ?_)
  show wpAny _ _ (seqItems? (.ref l) >>= _) _ _ s
  refine wpAny_bind (wpAny_seqItems hol hdl ?_)
  simp only [Int.toNat_natCast, hx]
  refine wpAny_bind (wpAny_rule (wpAny_bind (wpAny_setField ho hd (by simp) ?_)))
  show wpAny _ _ (newExc (.type "StopIteration") [] >>= _) _ _ _
  refine wpAny_bind ?_
  simp only [newExc, newTuple]
  refine wpAny_bind (wpAny_newObj_type ?_ (by size_fits))
  refine wpAny_bind (m := firstArgMember _ _) (wpAny_of_eq (a := Value.none) (by first | rfl | (simp only [firstArgMember]; rfl)) ?_)
  refine wpAny_newObj_type ?_ (by size_fits)
  simp only [raiseNew]
  refine wpAny_bind (wpAny_handled ?_)
  first | rw [show A.in1.handled = none from hh] | rw [hh]
  refine wpAny_bind (wpAny_pure (wpAny_throw ?_))
  refine wpAny_bind (wpAny_isInstance (T := "StopIteration") (b := true) ⟨_, Heap.get?_push_size _ rfl, rfl⟩ isSubtype_stop ?_)
  exact wpAny_pure (hQ _ (((Heap.SameBut.update ..).extBut.push _).push _) ⟨_, Heap.get?_push_of_some _ (Heap.get?_push_of_some _ (Heap.get?_update_self _ ho (Obj.isFreed_of_fields (Obj.data_mapFields hd _))))⟩)
end
/-- at it stands the iterator over the tuple at l, at place i -/
def TtO (l it : Addr) (i : Nat) : HO := .ext fun h => h.IsTupleIter it l i
def TtE (it : Addr) : HO := .ext fun h => ∃ u, h.get? it = some u
section
variable {P : Program} {w : World} {H : Hp} {h : Heap} {it l : Addr} {i : Nat}
theorem ttO_ok (e : h.IsTupleIter it l i) : ObjOk P w H h it (TtO l it i) := ⟨e, ⟨_, e.choose_spec.1⟩, fun h1 h2 q k => q.at k⟩
theorem ttE_ok (e : ∃ u, h.get? it = some u) : ObjOk P w H h it (TtE it) := ⟨e, e, fun h1 h2 q k => by obtain ⟨u, q⟩ := q; exact ⟨u, k _ q⟩⟩
end
section
variable {X : Cx} {pins : List (Addr × Obj)} {σ : L2.St} {H : Hp} {s : Shared} {it l C : Addr} {i : Nat}
theorem ttO_get (I : Inv X pins σ H s) (e : H it = some (TtO l it i)) : s.heap.IsTupleIter it l i := (I.hok it _ e).1
def rIterT (K : PySem.W.Frag) : List V → Hp → VK → Prop := fun xs H Q => ∃ (l : Addr) (zs : List V), xs = [.ref l] ∧ SqT K H l zs ∧ ∀ it, H it = none → Q (.ref it) (upd H it (TtO l it 0))
theorem call_iterT : CallR X (.builtin "iter") (rIterT X.K) := by
  intro pins s σ H xs us Q I r h
  obtain ⟨l, zs, rfl, hq, q⟩ := h
  obtain rfl := Vals.ref1 r
  obtain ⟨its, rv, pl, hz⟩ := I.tuple hq
  refine call_iterRaw pl ?_
  exact ⟨.ref s.heap.objs.size, _, I.laid (t' := s.toks) (fun b u e => Heap.get?_push_of_some _ e) (Nat.le_refl _) (ttO_ok ⟨_, Heap.get?_push_size _ rfl, rfl, rfl⟩), rfl, q _ (I.hok.fresh (Nat.le_refl _))⟩
theorem kcall_iterT {K : PySem.W.Frag} (h : X.K = K := by rfl) : CallR X (.builtin "iter") (rIterT K) := h ▸ call_iterT
theorem sqT_upd {K : PySem.W.Frag} {H : Hp} {a x : Addr} {xs : List V} {o u : HO} (d : H x = some u) (hu : (∃ ys, u = .lst ys) ∨ ∃ φ, u = .ext φ) (h : SqT K H a xs) : SqT K (upd H x o) a xs := by
  have ne : ∀ {v : HO}, H a = some v → (∀ ys, v ≠ .lst ys) → (∀ φ, v ≠ .ext φ) → upd H x o a = some v := fun h hn hm => by
    rw [upd_ne (fun q => by
      rw [q, d] at h
      cases h
      rcases hu with ⟨ys, e⟩ | ⟨φ, e⟩
      · exact hn _ e
      · exact hm _ e)]
    exact h
  rcases h with (h | ⟨u, h⟩) | h
  · exact .inl (.inl (ne h (fun _ q => nomatch q) fun _ q => nomatch q))
  · exact .inl (.inr ⟨u, ne h (fun _ q => nomatch q) fun _ q => nomatch q⟩)
  · exact .inr h
/-- a list filled up from a tuple's iterator -/
theorem tt_loop {A1 : Around} {Rs : Result → Shared → Prop} (hh : A1.in1.handled = none) {zs : List V} (hz : zs.length ≤ 100000) {q : Addr} {H0 : Hp} (nqi : q ≠ it)
    (hdone : ∀ H s, Inv X pins σ H s → H q = some (.lst zs) → (∀ b, b ≠ q → b ≠ it → H b = H0 b) → Rs (.ok (.ret .none)) s) :
    ∀ (m i : Nat) (H : Hp) (s : Shared), zs.length - i = m → i ≤ zs.length → Inv X pins σ H s → H it = some (TtO l it i) → SqT X.K H l zs → H q = some (.lst (zs.take i)) → (∀ b, b ≠ q → b ≠ it → H b = H0 b) →
      codeAny (model X.prog X.w) A1 (.builtin "list.extend.loop" ⟨[.ref q, .ref it, .none], []⟩) Rs s := by
  intro m
  induction m with
  | zero =>
    intro i H s hm hi I hit hl hq hb
    have : i = zs.length := by omega
    subst this
    refine codeAny_builtin PySem.F.entry_extend_loop ?_
    rw [Around.under_plainId PySem.F.plain_extend_loop _]
    show wpAny _ A1.in1 (pyNext (.ref it) >>= _) _ _ s
    obtain ⟨its, rv, pl, _⟩ := I.tuple hl
    refine wpAny_bind (next_end hh (ttO_get I hit) pl (by rw [List.getElem?_toArray]; exact List.getElem?_eq_none (by rw [← rv.length]; exact Nat.le_refl _)) fun h' ext hu => ?_)
    have mu : Mut (H it) := by rw [hit]; exact True.intro
    have I2 : Inv X pins σ (upd H it (TtE it)) { s with heap := h' } := I.write (x := it) (e := it) (t' := s.toks) mu (.inl rfl) (fun b o nb z => ext b o nb z) hu (ttE_ok hu)
    refine wpAny_pure (hdone _ _ I2 ?_ fun b n1 n2 => ?_)
    · rw [upd_ne nqi, hq, List.take_length]
    · rw [upd_ne n2]
      exact hb b n1 n2
  | succ m ih =>
    intro i H s hm hi I hit hl hq hb
    have hlt : i < zs.length := by omega
    refine codeAny_builtin PySem.F.entry_extend_loop ?_
    rw [Around.under_plainId PySem.F.plain_extend_loop _]
    show wpAny _ A1.in1 (pyNext (.ref it) >>= _) _ _ s
    obtain ⟨its, rv, pl, _⟩ := I.tuple hl
    have hx : zs[i]? = some zs[i] := List.getElem?_eq_getElem hlt
    obtain ⟨u, hu, ru⟩ := rv.get hx
    refine wpAny_bind (wpAny_pyNext_tuple_item (ttO_get I hit) pl (x := u) (by rw [List.getElem?_toArray]; exact hu) fun h' hit' sb => ?_)
    have mu : Mut (H it) := by rw [hit]; exact True.intro
    have I2 : Inv X pins σ (upd H it (TtO l it (i + 1))) { s with heap := h' } := I.write (x := it) (e := it) (t' := s.toks) mu (.inl rfl) (fun b o nb z => (sb.2 b nb).trans z) ⟨_, hit'.choose_spec.1⟩ (ttO_ok hit')
    have hq2 : upd H it (TtO l it (i + 1)) q = some (.lst (zs.take i)) := by rw [upd_ne nqi]; exact hq
    show wpAny _ A1.in1 (updateSeq q (·.push u) >>= _) _ _ _
    obtain ⟨z, its2, k, r2, hl2, e⟩ := I2.lstM hq2
    have hlen : (zs.take i).length < 100000 := by rw [List.length_take]; omega
    have hsz : (100000 : Nat) < sizeLine := by rw [sizeLine_eq]; decide
    refine wpAny_bind (wpAny_updateSeq e rfl (wpAny_pure ⟨plainId_quiet PySem.F.plain_extend_loop _, ?_⟩) (by rw [List.size_toArray]; omega) (by show (its2.toArray.push u).size ≤ sizeLine + 1; rw [Array.size_push, List.size_toArray]; omega))
    have et : zs.take i ++ [zs[i]] = zs.take (i + 1) := by rw [List.take_succ, hx]; rfl
    have I3 := I2.lset (f := (·.push u)) (its' := its2 ++ [u]) (ys := zs.take i ++ [zs[i]]) (t' := s.toks) hq2 e (by simp) (r2.append (.cons ru .nil)) (by rw [List.length_append, List.length_singleton]; omega)
    rw [et] at I3
    refine ih (i + 1) _ _ (by omega) (by omega) I3 ?_ ?_ upd_same fun b n1 n2 => ?_
    · rw [upd_ne (Ne.symm nqi)]
      exact upd_same
    · exact sqT_upd hq2 (.inl ⟨_, rfl⟩) (sqT_upd hit (.inr ⟨_, rfl⟩) hl)
    · rw [upd_ne n1, upd_ne n2]
      exact hb b n1 n2
/-- list(o): the class's own __iter__ gives a tuple's iterator, its own __len__ is asked for the room -/
def rOwnList (K : PySem.W.Frag) (C : Addr) (spI spL : Sp) : List V → Hp → VK → Prop := fun xs H Q => ∃ a dx fs, xs = [.ref a] ∧ H a = some (.ins C dx fs) ∧ ∀ q, H q = none →
  spI [.ref a] (upd H q (.lst [])) (fun v H1 => ∃ (it l : Addr) (zs : List V), v = .ref it ∧ H1 it = some (TtO l it 0) ∧ zs.length ≤ 100000 ∧ (∃ dx fs, H1 a = some (.ins C dx fs)) ∧ q ≠ it ∧
    spL [.ref a] H1 (fun u H2 => ∃ n : Int, u = .int n ∧ 0 ≤ n ∧ n ≤ 100000 ∧ H2 it = some (TtO l it 0) ∧ SqT K H2 l zs ∧ H2 q = some (.lst []) ∧ ∀ H3, H3 q = some (.lst zs) → (∀ b, b ≠ q → b ≠ it → H3 b = H2 b) → Q (.ref q) H3) E0) E0
theorem cr_ownList {k : Nat} {fI fL : Addr} {fdI fdL : FuncData} {psI psL : List Str} {spI spL : Sp} (FI : FnOk X.prog X.w X.K X.mg X.base CX0 k fI fdI psI spI) (bI : Binds X.K fdI psI []) (OI : Own X.K C "__iter__" fI)
    (FL : FnOk X.prog X.w X.K X.mg X.base CX0 k fL fdL psL spL) (bL : Binds X.K fdL psL []) (OL : Own X.K C "__len__" fL) (hc : X.calm = true) (hr : Room (k + 3) X.A) : CallR X (.type "list") (rOwnList X.K C spI spL) := by
  intro pins s σ H xs us Q I rv h
  obtain ⟨a, dx, fs, rfl, ha, hq⟩ := h
  obtain ⟨u, rfl, ru⟩ := rv.one
  cases ru
  refine callType_codes (Q₁ := fun obj s₁ => obj = .ref s.heap.objs.size ∧ s₁ = { s with heap := s.heap.push { cls := .type "list", data := .seq #[] } }) PySem.F.called_list (PySem.F.typeCall_list_1 _) PySem.F.entry_list_init
    (code_list_new _ ⟨rfl, rfl⟩) fun obj s₁ h₁ => ?_
  obtain ⟨rfl, rfl⟩ := h₁
  have hS : (s.heap.push { cls := .type "list", data := .seq #[] }).get? s.heap.objs.size = some { cls := .type "list", data := .seq #[] } := Heap.get?_push_size _ rfl
  refine ⟨⟨_, hS, rfl⟩, PySem.F.args_list_init_2 _ _, ?_⟩
  have fr : H s.heap.objs.size = none := I.hok.fresh (Nat.le_refl _)
  have hq := hq _ fr
  have I1 : Inv X pins σ (upd H s.heap.objs.size (.lst [])) { s with heap := s.heap.push { cls := .type "list", data := .seq #[] } } := I.lnew (its := []) (t' := s.toks) .nil (Nat.zero_le _)
  show wpAny _ _ (do let old ← Builtin.List.listItems (.ref s.heap.objs.size); Builtin.List.listUpdate (.ref s.heap.objs.size) (fun _ => #[]); letGo old.toList.reverse; Builtin.List.listExtendWith (.ref s.heap.objs.size) (.ref a) .none) _ _ _
  refine wpAny_bind ?_
  unfold Builtin.List.listItems
  refine wpAny_bind (wpAny_seqItems hS rfl (wpAny_pure ?_))
  show wpAny _ _ (updateSeq s.heap.objs.size (fun _ => #[]) >>= fun _ => letGo (#[] : Array Value).toList.reverse >>= fun _ => Builtin.List.listExtendWith (.ref s.heap.objs.size) (.ref a) .none) _ _ _
  refine wpAny_bind (wpAny_updateSeq hS rfl ?_)
  have I2 := I1.lset (f := fun _ => #[]) (its := []) (its' := []) (ys := []) (t' := s.toks) upd_same hS rfl .nil (Nat.zero_le _)
  rw [upd_upd] at I2
  refine wpAny_bind (wpAny_letGo ?_)
  have ha2 : upd H s.heap.objs.size (.lst []) a = some (.ins C dx fs) := by rw [upd_ne (ne_of_none ha fr)]; exact ha
  have hne : s.heap.objs.size ≠ a := fun z => by rw [z, ha] at fr; cases fr
  generalize s.heap.objs.size = q at hq I2 ha2 hne
  obtain ⟨mA, J, _⟩ := ins_get I2.hok ha2
  obtain ⟨od, J, _⟩ := J.look
  obtain ⟨m0, hF⟩ := I2.fr
  unfold Builtin.List.listExtendWith
  refine wpAny_bind (J.type.here ?_)
  have h1 : Builtin.List.listSameRef (.ref q) (.ref a) = false := by simp [Builtin.List.listSameRef, hne]
  have h2 : (Value.ref C == Value.type "list") = false := rfl
  have h3 : (Value.ref C == Value.type "tuple") = false := rfl
  simp only [h1, h2, h3, Bool.or_false, Bool.false_eq_true, if_false]
  have hr1 : Room k X.A.in1.in1 := (hr.in1.in1).mono (by omega)
  have hr2 : Room k X.A.in1.in1.in1 := hr.in1.in1.in1
  refine wpAny_bind (PySem.W.owit_iter hF I2.ok.mod.kin J OI.at_ OI.fn (wpAny_mono (own_run (A := X.A.in1.in1) rfl hr1 FI bI I2 (show Vals [V.ref a] [Value.ref a] from .cons rfl .nil) hq) (fun v s1 hq1 => ?_) fun _ _ z => z))
  obtain ⟨x, H1, I3, rx, it, l, zs, rfl, hit, hz, ⟨dx1, fs1, ha3⟩, nqi, hL⟩ := hq1
  cases rx
  unfold PySem.W.OwitIt
  refine wpAny_specialOf (name := Str.ofString "__next__") (ttO_get I3 hit).typeIs PySem.F.slot_tuple_iterator_next.lookup ?_
  obtain ⟨mA3, J3, _⟩ := ins_get I3.hok ha3
  obtain ⟨od3, J3, _⟩ := J3.look
  obtain ⟨m3, hF3⟩ := I3.fr
  refine wpAny_bind (wpAny_holding ?_)
  unfold Builtin.List.listLengthHint
  refine wpAny_bind (wpAny_bind (J3.type.here ((PySem.W.looks_findIn I3.kIn OL.at_).here ?_)))
  refine PySem.W.KFB.if_not rfl ?_
  show wpAny _ _ (rule "list.length-hint.len" >>= fun _ => _) _ _ _
  refine wpAny_bind (wpAny_rule ?_)
  have hlen := PySem.W.len_K (prog := X.prog) (w := X.w) (A := X.A.in1.in1) (Q := fun u s' => ∃ (H2 : Hp) (n : Int) (t : Tok), u = .int n t ∧ Inv X pins σ H2 s' ∧ 0 ≤ n ∧ n ≤ 100000 ∧ H2 it = some (TtO l it 0) ∧ SqT X.K H2 l zs ∧ H2 q = some (.lst []) ∧ ∀ H3, H3 q = some (.lst zs) → (∀ b, b ≠ q → b ≠ it → H3 b = H2 b) → Q (.ref q) H3)
    hF3 I3.ok.mod.kin J3 OL.at_ OL.fn (wpAny_mono (own_run (A := X.A.in1.in1.in1) (E' := fun _ _ => False) rfl hr2 FL bL I3 (show Vals [V.ref a] [Value.ref a] from .cons rfl .nil) hL) (fun v s' q => by
      obtain ⟨z, H', I', rz, n, rfl, n0, n1, q⟩ := q
      obtain ⟨t, rfl⟩ := rz
      exact ⟨⟨n0, by omega⟩, H', n, _, rfl, I'.tok _, n0, n1, q⟩) fun _ _ q => q)
  refine wpAny_bind (wpAny_attempt (wpAny_mono hlen (fun v s2 q2 => ?_) fun _ _ z => z.elim))
  obtain ⟨H2, n, t, rfl, I4, n0, n1, hit4, hl4, hq4, k4⟩ := q2
  show wpAny _ _ (asInt? (.int n t) >>= _) _ _ _
  refine wpAny_bind (wpAny_pure ?_)
  have hlong : Builtin.List.listTooLong n.toNat = false := by
    unfold Builtin.List.listTooLong
    rw [decide_eq_false_iff_not]
    rw [sizeLine_eq]
    omega
  show wpAny _ _ (if Builtin.List.listTooLong n.toNat = true then _ else _) _ _ _
  rw [if_neg (by rw [hlong]; exact Bool.false_ne_true)]
  refine wpAny_pure ?_
  obtain ⟨z, its, kk, r3, hl3, e3⟩ := I4.lstM hq4
  cases r3
  have hdn : ∀ (H : Hp) (s' : Shared), Inv X pins σ H s' → H q = some (.lst zs) → (∀ b, b ≠ q → b ≠ it → H b = H2 b) → (wants (fun r s₂ => r = Value.none ∧ EP X pins σ Q (.ref q) s₂) X.xe) (.ok (.ret .none)) s' := fun H s' I' h1 h2 => ⟨rfl, .ref q, H, I', rfl, k4 H h1 h2⟩
  refine wpAny_ite_split (fun _ => ?_) (fun _ => wpAny_pure ⟨plainId_quiet PySem.F.plain_extend_loop _, tt_loop (A1 := X.A.in1) (I.ok.hd hc) hz nqi hdn _ 0 H2 _ rfl (Nat.zero_le _) I4 hit4 hl4 hq4 fun _ _ _ => rfl⟩)
  refine wpAny_bind (wpAny_rule ?_)
  refine wpAny_bind ?_
  show wpAny _ _ (updateSeq q (·.push .none) >>= fun _ => updateSeq q (·.pop)) _ _ _
  refine wpAny_bind (wpAny_updateSeq e3 rfl ?_)
  have I5 := I4.lset (f := (·.push Value.none)) (its' := [Value.none]) (ys := [.non]) (t' := s2.toks) hq4 e3 (by simp) (.cons rfl .nil) (by rw [List.length_singleton, sizeLine_eq]; decide)
  obtain ⟨z4, its4, k5, r4, hl5, e4⟩ := I5.lstM upd_same
  obtain ⟨u4, rfl, ru4⟩ := r4.one
  refine wpAny_updateSeq e4 rfl ?_ (by show 1 ≤ sizeLine; rw [sizeLine_eq]; decide) (by show 0 ≤ sizeLine + 1; exact Nat.zero_le _)
  have I6 := I5.lset (f := (·.pop)) (its := [u4]) (its' := []) (ys := []) (t' := s2.toks) upd_same e4 (by rfl) .nil (Nat.zero_le _)
  rw [upd_upd] at I6
  have hH : upd H2 q (.lst []) = H2 := by
    funext b
    by_cases hb : b = q
    · rw [hb, upd_same, hq4]
    · rw [upd_ne hb]
  rw [hH] at I6
  exact wpAny_pure ⟨plainId_quiet PySem.F.plain_extend_loop _, tt_loop (A1 := X.A.in1) (I.ok.hd hc) hz nqi hdn _ 0 H2 _ rfl (Nat.zero_le _) I6 hit4 hl4 hq4 fun _ _ _ => rfl⟩
theorem kcr_ownList {K : PySem.W.Frag} {k k' j : Nat} {spI spL : Sp} (MI : Ow X.prog X.w X.K X.mg X.base k C "__iter__" spI) (ML : Ow X.prog X.w X.K X.mg X.base k' C "__len__" spL) (hc : X.calm = true) (hr : Room j X.A) (h1 : k + 3 ≤ j) (h2 : k' + 3 ≤ j) (h : X.K = K := by rfl) : CallR X (.type "list") (rOwnList K C spI spL) := by
  subst h
  obtain ⟨fI, fdI, psI, OI, FI, bI⟩ := MI.ex
  obtain ⟨fL, fdL, psL, OL, FL, bL⟩ := ML.ex
  exact cr_ownList (FI.mono (Nat.le_max_left k k')) bI OI (FL.mono (Nat.le_max_right k k')) bL OL hc (hr.mono (by omega))
end
end N0

namespace N0
open PySem PySem.Spec PyProof.Rows L2 HT
section
variable {prog : Program} {w : World} {A : Around} {R : Result → Shared → Prop} {s : Shared} {elt t0 i0 t1 i1 : Expr} {scope : Scope} {pos : Pos} {it acc : Value} {env : Env}
abbrev Sc2 (elt t0 i0 t1 i1 : Expr) (scope : Scope) (pos : Pos) : Expr := .SetComp elt [⟨t0, i0, [], 0⟩, ⟨t1, i1, [], 0⟩] scope pos
theorem sturnA : compTurn (Sc2 elt t0 i0 t1 i1 scope pos) 0 it acc env = (do
    standAt i0.pos
    match ← pyNext it with
    | none => pure (.done .next)
    | some v =>
      letOwnedTupleGo t0 it v
      assign t0 env v
      let ok ← (pure true : Sem Bool)
      if ok then
        let x ← eval i1 env
        standAt i1.pos
        let x ← foldedSetIterable i1 env x
        let _ ← runOwn (.compStart (Sc2 elt t0 i0 t1 i1 scope pos) 1 (← holding [x] (pyIter x)) acc env) env
      again (.compLoop (Sc2 elt t0 i0 t1 i1 scope pos) 0 it acc env)) := by rfl
theorem sturnB : compTurn (Sc2 elt t0 i0 t1 i1 scope pos) 1 it acc env = (do
    standAt i1.pos
    match ← pyNext it with
    | none => pure (.done .next)
    | some v =>
      letOwnedTupleGo t1 it v
      assign t1 env v
      let ok ← (pure true : Sem Bool)
      if ok then
        (do let v ← eval elt env; standAt elt.pos; let _ ← call (.builtin "set.add") [acc, v])
      again (.compLoop (Sc2 elt t0 i0 t1 i1 scope pos) 1 it acc env)) := by rfl
/-- an error within the block, told to the frame -/
abbrev erS (prog : Program) (w : World) (A : Around) (env : Env) (R : Result → Shared → Prop) : Value → Shared → Prop := notedBy (model prog w) A env fun e s' => R (.error e) s'
/-- the turns of the first clause -/
theorem sloopA (hs : ∀ x, foldedSetIterable i1 env x = pure x) (I : Nat → Shared → Prop)
    (turn : ∀ n s, I n s → wpAny (model prog w) A (pyNext it) (fun r a => match r with
      | none => R (.ok .next) a
      | some v => wpAny (model prog w) A (letOwnedTupleGo t0 it v) (fun _ b => wpAny (model prog w) A (assign t0 env v) (fun _ c =>
          wpAny (model prog w) A (eval i1 env) (fun x d => wpAny (model prog w) A (pyIter x) (fun it1 e =>
            codeAny (model prog w) A (.compStart (Sc2 elt t0 i0 t1 i1 scope pos) 1 it1 acc env) (fun r f => match r with | .ok _ => ∃ m, m < n ∧ I m f | .error _ => False) e)
            (erS prog w A env R) d) (erS prog w A env R) c) (erS prog w A env R) b) (erS prog w A env R) a) (erS prog w A env R) s)
    (n : Nat) (h : I n s) : codeAny (model prog w) A (.compLoop (Sc2 elt t0 i0 t1 i1 scope pos) 0 it acc env) R s := by
  refine codeAny_loop rfl I (fun n s hI => ?_) n h
  show wpAny _ A ((compTurn (Sc2 elt t0 i0 t1 i1 scope pos) 0 it acc env).onRaise (fun x => do noteFrame x env; theTreesLotGoes x)) _ _ s
  refine wpAny_noted ?_
  rw [sturnA]
  refine wpAny_bind (wpAny_standAt (wpAny_bind (wpAny_mono (turn n s hI) (fun r a ha => ?_) fun _ _ z => z)))
  match r, ha with
  | none, ha => exact wpAny_pure ha
  | some v, ha =>
    refine wpAny_bind (wpAny_mono ha (fun _ b hb => wpAny_bind (wpAny_mono hb (fun _ c hc => wpAny_bind (wpAny_pure ?_)) fun _ _ z => z)) fun _ _ z => z)
    refine wpAny_bind (wpAny_mono hc (fun x d hd => ?_) fun _ _ z => z)
    refine wpAny_bind (wpAny_standAt (wpAny_bind (wpAny_of_eq (hs x) (wpAny_bind (wpAny_holding (wpAny_mono hd (fun it1 e he => ?_) fun _ _ z => z))))))
    refine wpAny_bind (wpAny_runOwn ?_)
    rw [Around.mark_none]
    refine codeAny_mono he fun r f hr => ?_
    match r, hr with
    | .ok _, hr => first | exact wpAny_pure ⟨rfl, hr⟩ | exact wpAny_bind (wpAny_pure (wpAny_pure ⟨rfl, hr⟩))
    | .error _, hr => exact hr.elim
/-- the turns of the second clause -/
theorem sloopB (I : Nat → Shared → Prop)
    (turn : ∀ n s, I n s → wpAny (model prog w) A (pyNext it) (fun r a => match r with
      | none => R (.ok .next) a
      | some v => wpAny (model prog w) A (letOwnedTupleGo t1 it v) (fun _ b => wpAny (model prog w) A (assign t1 env v) (fun _ c =>
          wpAny (model prog w) A (eval elt env) (fun x d => wpAny (model prog w) A (call (.builtin "set.add") [acc, x]) (fun _ e => ∃ m, m < n ∧ I m e) (erS prog w A env R) d) (erS prog w A env R) c) (erS prog w A env R) b) (erS prog w A env R) a) (erS prog w A env R) s)
    (n : Nat) (h : I n s) : codeAny (model prog w) A (.compLoop (Sc2 elt t0 i0 t1 i1 scope pos) 1 it acc env) R s := by
  refine codeAny_loop rfl I (fun n s hI => ?_) n h
  show wpAny _ A ((compTurn (Sc2 elt t0 i0 t1 i1 scope pos) 1 it acc env).onRaise (fun x => do noteFrame x env; theTreesLotGoes x)) _ _ s
  refine wpAny_noted ?_
  rw [sturnB]
  refine wpAny_bind (wpAny_standAt (wpAny_bind (wpAny_mono (turn n s hI) (fun r a ha => ?_) fun _ _ z => z)))
  match r, ha with
  | none, ha => exact wpAny_pure ha
  | some v, ha =>
    refine wpAny_bind (wpAny_mono ha (fun _ b hb => wpAny_bind (wpAny_mono hb (fun _ c hc => wpAny_bind (wpAny_pure ?_)) fun _ _ z => z)) fun _ _ z => z)
    exact wpAny_bind (wpAny_bind (wpAny_mono hc (fun x d hd => wpAny_bind (wpAny_standAt (wpAny_bind (wpAny_mono hd (fun _ e he => wpAny_pure (wpAny_pure ⟨rfl, he⟩)) fun _ _ z => z)))) fun _ _ z => z))
/-- the second clause begins -/
theorem sstartB (h0 : codeAny (model prog w) A (.compLoop (Sc2 elt t0 i0 t1 i1 scope pos) 1 it acc env) R s)
    (h : wpAny (model prog w) A (pyIter it) (fun j a => codeAny (model prog w) A (.compLoop (Sc2 elt t0 i0 t1 i1 scope pos) 1 j acc env) R a) (notedBy (model prog w) A env fun x a => R (.error x) a) s) :
    codeAny (model prog w) A (.compStart (Sc2 elt t0 i0 t1 i1 scope pos) 1 it acc env) R s := by
  refine codeAny_of_tree ?_
  show wpAny _ _ ((compStart (Sc2 elt t0 i0 t1 i1 scope pos) 1 it acc env).onRaise (fun x => do noteFrame x env; standAt theWindowsPlace)) _ _ s
  refine wpAny_notedAt ?_
  unfold compStart
  show wpAny _ _ (ask >>= _) _ _ s
  refine wpAny_bind (wpAny_askSetting (wpAny_ite ?_))
  split
  · first | exact wpAny_bind (wpAny_pure (wpAny_pure ⟨rfl, h0⟩)) | exact wpAny_pure ⟨rfl, h0⟩
  · refine wpAny_bind (wpAny_rule ?_)
    show wpAny _ _ (standAt i1.pos >>= _) _ _ s
    exact wpAny_bind (wpAny_standAt (wpAny_bind (wpAny_mono h (fun j a z => wpAny_pure ⟨rfl, z⟩) fun _ _ z => z)))
end
section
variable {X : Cx} {pins : List (Addr × Obj)} {σ : L2.St} {H : Hp} {s : Shared}
/-- a number put into a set -/
theorem addI_ok {E : Value → Shared → Prop} {D : Addr} {S : Int → Bool} {n : Nat} {y : Int} {tk : Tok} {Q : Value → Shared → Prop} (I : Inv X pins σ H s) (hD : H D = some (SetO X.w D S n)) (room : n + 1 < scanBound)
    (h : ∀ a, Inv X pins σ (upd H D (SetO X.w D (fun j => S j || decide (j = y)) (if S y = true then n else n + 1))) a → Q .none a) : wpAny (model X.prog X.w) X.A (call (.builtin "set.add") [.ref D, .int y tk]) Q E s := by
  refine setR_add (setO_get I hD) room fun g sb new => h _ (I.write (e := D) (t' := s.toks + 1) (by rw [hD]; trivial) (.inl rfl) (fun b u hb hu => (sb.2 b hb).trans hu) ?_ (setO_new new))
  have ⟨o, _, _, _, ho, _⟩ := new
  exact ⟨o, ho⟩
/-- {elt for t0 in i0 for t1 in i1}, elt a number -/
def tSc2 (w : World) (wi : TI) (g : TG) (wj : TI) (g' : TG) (te : TE) (vs vs' : List Nat) : TE := fun σ H Q => wi σ H fun J G => ∀ D, G D = none → ∃ W : Nat → Nat → Hp → Prop, (∃ m, W 0 m (upd G D (SetO w D (fun _ => false) 0))) ∧ ∀ i m G, W i m G →
  (J.stop i G ∧ Q (.ref D) G) ∨ (J.go i G ∧ ∃ Nx : Hp → Prop, (∀ F, Nx F → ∃ m', m' < m ∧ W (i + 1) m' F) ∧ ∀ x F, J.yld i G x F → g x (wipe σ vs) F fun τ F => wipe τ vs = wipe σ vs ∧
    wj τ F fun J' F => ∃ W' : Nat → Nat → Hp → Prop, (∃ m, W' 0 m F) ∧ ∀ j k F, W' j k F →
      (J'.stop j F ∧ Nx F) ∨ (J'.go j F ∧ ∃ Ny : Hp → Prop, (∀ F', Ny F' → ∃ k', k' < k ∧ W' (j + 1) k' F') ∧ ∀ x F', J'.yld j F x F' → g' x (wipe τ vs') F' fun ρ F' => wipe ρ vs' = wipe τ vs' ∧
        te ρ F' fun y F' => ∃ (c : Int) (S : Int → Bool) (n : Nat), y = .int c ∧ F' D = some (SetO w D S n) ∧ n + 1 < scanBound ∧ Ny (upd F' D (SetO w D (fun j => S j || decide (j = c)) (if S c = true then n else n + 1)))))
variable {elt t0 i0 t1 i1 : Expr} {scope : Scope} {own : List (PySem.Str × Nat)} {vs' : List Nat} {pos : Pos} {wi wj : TI} {g g' : TG} {te : TE}
/-- a rule for each part, in the block -/
structure BlkR (X : Cx) (scope : Scope) (t0 t1 i1 elt : Expr) (g g' : TG) (wj : TI) (te : TE) : Prop where
  g : ∀ s H C cl fp, PG (X.blk s H scope (compEnvC scope cl C X.env) fp) t0 g
  j : ∀ s H C cl fp, PI (X.blk s H scope (compEnvC scope cl C X.env) fp) t1 i1 wj
  g' : ∀ s H C cl fp, PG (X.blk s H scope (compEnvC scope cl C X.env) fp) t1 g'
  e : ∀ s H C cl fp, PE (X.blk s H scope (compEnvC scope cl C X.env) fp) elt te
theorem pe_sc2 (hc : X.calm = true) (hN : X.N.Nodup) (hi : PI X t0 i0 wi) (ok : BlkOk X.N X.env.scope scope own) (hv : ∀ i ∈ vs', i ∈ own.map (·.2)) (B : BlkR X scope t0 t1 i1 elt g g' wj te)
    (hs : ∀ x, foldedSetIterable i0 X.env x = pure x := by intro _; rfl) (hs' : ∀ env x, foldedSetIterable i1 env x = pure x := by intro _ _; rfl) :
    PE X (Sc2 elt t0 i0 t1 i1 scope pos) (tSc2 X.w wi g wj g' te (own.map (·.2)) vs') := by
  refine ⟨fun pins s σ H Q I h => ?_⟩
  show wpAny _ _ (comprehension (Sc2 elt t0 i0 t1 i1 scope pos) scope X.env (firstIterPos [⟨t0, i0, [], 0⟩, ⟨t1, i1, [], 0⟩] pos) (newSet (.type "set")) false (eval i0 X.env)) _ _ s
  have cap : ∀ y ∈ scope.names, y.2 = .free → ∃ c, X.env.cells.lookup y.1 = some c := fun y hy e => (ok.free y hy e).elim (fun k => I.ok.has _ (.inl k)) fun k => I.ok.has _ (.inr k)
  refine wpAny_comprehension_free rfl hs (closure_ok cap) ok.kind (fun y hy e => by rw [ok.uniq y hy, e]) (thn (hi.run pins s σ H _ I h) fun xv sa hx => thn hx fun itv sb hb => ?_)
  obtain ⟨it, fp, tn, J, G, rfl, Ib, T, stb, fb, q⟩ := hb
  refine PpSet.newSet_ok (newEnv_comp ?_)
  obtain ⟨D, hD⟩ : ∃ D, sb.heap.objs.size = D := ⟨_, rfl⟩
  obtain ⟨W, ⟨m0, w0⟩, turn⟩ := q D (Ib.hok.fresh (Nat.le_of_eq hD))
  rw [hD]
  -- the new set
  obtain ⟨sc, esc⟩ : ∃ sc : Shared, ({ sb with heap := sb.heap.push { cls := .type "set", dict := none, data := .set #[] 0 (.fresh 0 0 (!X.w.params.followText "set-order")) } } : Shared) = sc := ⟨_, rfl⟩
  have hsc : sc.heap = sb.heap.push { cls := .type "set", dict := none, data := .set #[] 0 (.fresh 0 0 (!X.w.params.followText "set-order")) } := by rw [← esc]
  rw [esc]
  obtain ⟨GD, eGD⟩ : ∃ GD, upd G D (SetO X.w D (fun _ => false) 0) = GD := ⟨_, rfl⟩
  rw [eGD] at w0
  have Ic : Inv X pins σ GD sc := by
    rw [← esc, ← eGD]
    exact Ib.laid (t' := sb.toks) (fun b o e => Heap.get?_push_of_some _ e) (Nat.le_of_eq hD) (by rw [← hD]; exact setO_new (setR_fresh X.w))
  have fc : ∀ b ∈ fp, FpOk X pins GD b ∧ b < sc.heap.objs.size := fun b hb => by
    obtain ⟨o, e, _⟩ := T.obj _ _ stb b hb
    have lt := Heap.lt_size e
    refine ⟨⟨?_, (fb b hb).2⟩, by rw [hsc, Heap.size_push]; exact Nat.lt_succ_of_lt lt⟩
    rw [← eGD, upd_ne (by rw [← hD]; exact Nat.ne_of_lt lt)]
    exact (fb b hb).1
  have stc : tn 0 sc.heap := T.keep _ _ _ stb fun b _ o e => by rw [hsc]; exact Heap.get?_push_of_some _ e
  have Id := block_start Ic ok hN fc
  obtain ⟨ce, hce⟩ : ∃ ce, compEnvC scope (cellsFrom (sc.heap.objs.size + 1) scope.names (cloFrom X.env.cells scope.names [])) sc.heap.objs.size X.env = ce := ⟨_, rfl⟩
  have pg := B.g sc GD sc.heap.objs.size (cellsFrom (sc.heap.objs.size + 1) scope.names (cloFrom X.env.cells scope.names [])) fp
  have pj := B.j sc GD sc.heap.objs.size (cellsFrom (sc.heap.objs.size + 1) scope.names (cloFrom X.env.cells scope.names [])) fp
  have pg' := B.g' sc GD sc.heap.objs.size (cellsFrom (sc.heap.objs.size + 1) scope.names (cloFrom X.env.cells scope.names [])) fp
  have pe := B.e sc GD sc.heap.objs.size (cellsFrom (sc.heap.objs.size + 1) scope.names (cloFrom X.env.cells scope.names [])) fp
  rw [hce] at pg pj pg' pe Id
  have cL : ce.locals = sc.heap.objs.size := by rw [← hce]; rfl
  obtain ⟨sd, esd⟩ : ∃ sd : Shared, ({ sc with heap := pushCells (sc.heap.push { cls := .type "dict", data := .dict #[] }) scope.names } : Shared) = sd := ⟨_, rfl⟩
  rw [esd] at Id
  have std : tn 0 sd.heap := T.keep _ _ _ stc fun b _ o e => by rw [← esd]; exact pushCells_keeps _ _ _ _ (Heap.get?_push_of_some _ e)
  obtain ⟨Y, eY⟩ : ∃ Y, X.blk sc GD scope ce fp = Y := ⟨_, rfl⟩
  have stat : ∀ {τ : L2.St} {F : Hp} {a : Shared}, Inv (X.blk sc GD scope ce fp) [] τ F a → (∀ b ∈ fp, F b = none) → ∀ b ∈ fp, FpOk (X.blk sc GD scope ce fp) [] F b := fun {τ F a} Ia hn b hb =>
    ⟨hn b hb, (Ia.ok.exf b hb).1, Ia.ok.exfs b hb, .inl hb, fun x c e => (Ia.ok.exf b hb).2 x c e, fun p hp => nomatch (show p ∈ ([] : List (Addr × Obj)) from hp)⟩
  have fin0 : ∀ {F : Hp} {a : Shared}, Inv (X.blk sc GD scope ce fp) [] (wipe σ (own.map (·.2))) F a → Q (.ref D) F → compPost (model X.prog X.w) X.A X.xe none (EP X pins σ Q) (.ref D) sc.heap.objs.size (.ok .next) a := fun {F a} Ia qq => by
    have Ie : Inv X pins σ F a := Ic.call' (ch := fp) Ia.os Ia.base Ia.hok Ia.bare fun b hb => by
      obtain ⟨_, f1, f2, f3, f4, f5⟩ := (fc b hb).1
      exact ⟨f3, f1, f4, f5⟩
    have nC : F sc.heap.objs.size = none := by
      have z : F ce.locals = none := Ia.free
      rwa [cL] at z
    obtain ⟨m, hn, _⟩ := Ia.loc
    have hn : a.heap.Ns ce.locals m := hn
    rw [cL] at hn
    obtain ⟨_, f1, f2, f3, f4, f5⟩ := Ic.fpOk (H' := F) (Nat.le_refl _) nC
    exact ⟨m, hn, fun k sm => ⟨.ref D, F, Ie.turned (t' := a.toks) (fun b o hb e => (sm.2 b hb).trans e) nC f1 f3 f4 f5, rfl, qq⟩⟩
  show codeAny _ _ (.compStart (Sc2 elt t0 i0 t1 i1 scope pos) 0 (.ref it) (.ref D) (compEnvC scope (cellsFrom (sc.heap.objs.size + 1) scope.names (cloFrom X.env.cells scope.names [])) sc.heap.objs.size X.env)) (compPost (model X.prog X.w) X.A X.xe none (EP X pins σ Q) (.ref D) sc.heap.objs.size) _
  rw [hce, esd]
  refine PpSet.codeAny_compStart_set (rest := [⟨t1, i1, [], 0⟩]) ?L (T.self X.A 0 _ _ _ std ?L)
  refine sloopA (hs' ce) (fun n a => ∃ i F, Inv (X.blk sc GD scope ce fp) [] (wipe σ (own.map (·.2))) F a ∧ tn i a.heap ∧ (∀ b ∈ fp, F b = none) ∧ W i n F) ?_ m0 ⟨0, GD, Id, std, fun b hb => (fc b hb).1.1, w0⟩
  rintro n a ⟨i, F, Ia, sta, na, wa⟩
  rcases turn i n F wa with ⟨stop, qq⟩ | ⟨go, Nx, hNx, step⟩
  · refine thnF (T.done (X.blk sc GD scope ce fp) rfl rfl rfl hc i [] a _ F (fun _ _ => False) Ia (stat Ia na) sta stop) fun r b ⟨hr, Iz⟩ => ?_
    subst hr
    exact fin0 Iz qq
  · refine thnF (T.item (X.blk sc GD scope ce fp) rfl rfl rfl hc i [] a _ F (fun _ _ => False) Ia (stat Ia na) sta go) fun r b ⟨u, hr, hb⟩ => ?_
    subst hr
    refine thnF hb fun _ c ⟨x, Fc, Iy, rx, yx, sty, ny⟩ => ?_
    have Iy' := Iy.pinned (stat Iy ny) (T.obj _ _ sty)
    refine thnF (pg.run _ c _ Fc x u _ Iy' rx (step x Fc yx)) fun _ d ⟨τ, Fd, Iτ, hwτ, qτ⟩ => ?_
    have lτ : (wipe σ (own.map (·.2))).length = τ.length := by rw [← hwτ, wipe_length]
    have kτ : ∀ (j : Nat) v, (wipe σ (own.map (·.2)))[j]? = some (some v) → (wipe τ vs')[j]? = some (some v) := fun j v e => by
      rw [← hwτ] at e
      rw [wipe_out fun z => (wipe_some e).2 (hv j z)]
      exact (wipe_some e).1
    -- the end of a turn of the first clause
    have next : ∀ {F' : Hp} {z : Shared}, Inv (X.blk sc GD scope ce fp) ([] ++ pinsAt fp c.heap) (wipe τ vs') F' z → Nx F' →
        ∃ m, m < n ∧ ∃ i F, Inv (X.blk sc GD scope ce fp) [] (wipe σ (own.map (·.2))) F z ∧ tn i z.heap ∧ (∀ b ∈ fp, F b = none) ∧ W i m F := fun {F' z} Iz nx => by
      obtain ⟨m', hm, w'⟩ := hNx F' nx
      have pin : ∀ b ∈ fp, ∀ o, c.heap.get? b = some o → z.heap.get? b = some o ∧ F' b = none := fun b hb o e => by
        obtain ⟨p1, p2, _⟩ := Iz.pin (b, o) (List.mem_append_right _ (List.mem_append_right _ (mem_pinsAt hb e)))
        exact ⟨p1, p2⟩
      refine ⟨m', hm, i + 1, F', (Iz.unpinned (pins := [])).weak (lτ.trans (wipe_length τ vs').symm) kτ, T.keep _ _ _ sty fun b hb o e => (pin b hb o e).1, fun b hb => ?_, w'⟩
      obtain ⟨o, e, _⟩ := T.obj _ _ sty b hb
      exact (pin b hb o e).2
    refine thnF (pj.run _ d τ Fd _ Iτ qτ) fun xv e hx => thnF hx fun itv f hf => ?_
    obtain ⟨it', fp', tn', J', Ff, rfl, If, T', stf, ff, W', ⟨m1, w1⟩, turn'⟩ := hf
    have stat' : ∀ {F' : Hp}, (∀ b ∈ fp', F' b = none) → ∀ b ∈ fp', FpOk (X.blk sc GD scope ce fp) ([] ++ pinsAt fp c.heap) F' b := fun hn b hb => ⟨hn b hb, (ff b hb).2⟩
    refine sstartB ?M (T'.self X.A 0 _ _ _ stf ?M)
    refine sloopB (fun k z => ∃ j F', Inv (X.blk sc GD scope ce fp) ([] ++ pinsAt fp c.heap) (wipe τ vs') F' z ∧ tn' j z.heap ∧ (∀ b ∈ fp', F' b = none) ∧ W' j k F') ?_ m1 ⟨0, Ff, If.weak (wipe_length _ _) (fun j v e => (wipe_some e).1), stf, fun b hb => (ff b hb).1, w1⟩
    rintro k z ⟨j, F', Iz, stz, nz, wz⟩
    rcases turn' j k F' wz with ⟨stop', nx⟩ | ⟨go', Ny, hNy, step'⟩
    · refine thnF (T'.done (X.blk sc GD scope ce fp) rfl rfl rfl hc j _ z (wipe τ vs') F' (fun _ _ => False) Iz (stat' nz) stz stop') fun r b ⟨hr, Iw⟩ => ?_
      subst hr
      exact next Iw nx
    · refine thnF (T'.item (X.blk sc GD scope ce fp) rfl rfl rfl hc j _ z (wipe τ vs') F' (fun _ _ => False) Iz (stat' nz) stz go') fun r b ⟨u1, hr, hb1⟩ => ?_
      subst hr
      refine thnF hb1 fun _ z2 ⟨x1, F2, Iw, r1, y1, stw, nw⟩ => ?_
      have Iw' := Iw.pinned (stat' nw) (T'.obj _ _ stw)
      refine thnF (pg'.run _ z2 (wipe τ vs') F2 x1 u1 _ Iw' r1 (step' x1 F2 y1)) fun _ z3 ⟨ρ, F3, Iρ, hwρ, qρ⟩ => ?_
      refine thnF (pe.run _ z3 ρ F3 _ Iρ qρ) fun v z4 ⟨yv, F4, Iv, rv, cc, S, nn, ey, hS, hz, ny⟩ => ?_
      subst ey
      obtain ⟨tk, rfl⟩ := rv
      refine addI_ok (X := X.blk sc GD scope ce fp) Iv hS hz fun z5 Iu => ?_
      obtain ⟨m', hm, w'⟩ := hNy _ ny
      have pin : ∀ b ∈ fp', ∀ o, z2.heap.get? b = some o → z5.heap.get? b = some o ∧ _ := fun b hb o e => by
        obtain ⟨p1, p2, _⟩ := Iu.pin (b, o) (List.mem_append_right _ (List.mem_append_right _ (mem_pinsAt hb e)))
        exact ⟨p1, p2⟩
      refine ⟨m', hm, j + 1, _, Iu.unpinned.weak (by rw [← hwρ, wipe_length]) (fun j v e => by rw [← hwρ] at e; exact (wipe_some e).1), T'.keep _ _ _ stw fun b hb o e => (pin b hb o e).1, fun b hb => ?_, w'⟩
      obtain ⟨o, e, _⟩ := T'.obj _ _ stw b hb
      exact (pin b hb o e).2
end
end N0

/-! sets by value: {.. for .. in .. for .. in ..} of numbers, sorted -/
namespace N0
open PySem PySem.Spec PyProof.Rows L2 HT
section
variable {K : PySem.W.Frag} {H : Hp} {σ : L2.St} {w : World}
/-- what an inner loop walks over, the heap left as it is; it goes on while what stood at the start stands -/
def EvJ (wi : TI) (σ : L2.St) (H : Hp) (xs : List V) : Prop := ∀ H1, Same H H1 → ∀ R : It → Hp → Prop, (∀ J, Walk J xs.length (fun H' => Same H H') (YAt xs) → R J H1) → wi σ H1 R
theorem ej_tup {i : Nat} {a : Addr} {xs : List V} (hv : σ[i]? = some (some (.ref a))) (h : SqT K H a xs) : EvJ (iTup K (tVar i)) σ H xs := fun H1 e R r =>
  ⟨.ref a, hv, a, rfl, ⟨xs, same_tup e h⟩, r _ (walk_tup.mono (fun H' e3 => same_tup e3 h) fun _ _ _ _ _ _ y => y)⟩
/-- a set at D of the numbers of L, all else as in H -/
def SetSt (w : World) (H : Hp) (D : Addr) (L : List Int) (F : Hp) : Prop := Same H F ∧ ∃ (S : Int → Bool) (n : Nat), F D = some (SetO w D S n) ∧ n ≤ L.length ∧ ∀ k, S k = decide (k ∈ L)
theorem SetSt.put {D : Addr} {L : List Int} {F : Hp} {c : Int} {S : Int → Bool} {n : Nat} (hD : H D = none) (e : Same H F) (hn : n ≤ L.length) (hk : ∀ k, S k = decide (k ∈ L)) :
    SetSt w H D (L ++ [c]) (upd F D (SetO w D (fun j => S j || decide (j = c)) (if S c = true then n else n + 1))) := by
  refine ⟨same_mut e hD, _, _, upd_same, ?_, fun k => ?_⟩
  · rw [List.length_append, List.length_singleton]
    split <;> omega
  · show (S k || decide (k = c)) = _
    rw [hk k]
    by_cases h1 : k ∈ L
    · simp [h1]
    · by_cases h2 : k = c
      · simp [h2]
      · simp [h1, h2]
abbrev flatN {α : Type} (n : Nat) (zs : Nat → List V) (f : Nat → V → α) : List α := (List.range n).flatMap fun i => (zs i).map (f i)
theorem flatN_succ {α : Type} (n : Nat) (zs : Nat → List V) (f : Nat → V → α) : flatN (n + 1) zs f = flatN n zs f ++ (zs n).map (f n) := by
  unfold flatN
  rw [List.range_succ, List.flatMap_append, List.flatMap_singleton]
theorem flatN_mono {α : Type} {zs : Nat → List V} {f : Nat → V → α} {m : Nat} : ∀ {n : Nat}, m ≤ n → (flatN m zs f).length ≤ (flatN n zs f).length
  | 0, h => by rw [Nat.le_zero.mp h]; exact Nat.le_refl _
  | n + 1, h => by
    rcases Nat.eq_or_lt_of_le h with e | l
    · rw [e]; exact Nat.le_refl _
    · have := flatN_mono (zs := zs) (f := f) (Nat.le_of_lt_succ l)
      rw [flatN_succ, List.length_append]
      omega
theorem es_sc2 {wi wj : TI} {g g' : TG} {te : TE} {vs vs' : List Nat} {xs : List V} (zs : Nat → List V) (f : Nat → V → Int) (τ : Nat → L2.St) (ρ : Nat → V → L2.St)
    (hi : EvI wi σ H xs) (hz : (flatN xs.length zs f).length ≤ 1000) (hg : ∀ i x, xs[i]? = some x → ∀ H' Q, Q (τ i) H' → g x (wipe σ vs) H' Q) (hw : ∀ i, i < xs.length → wipe (τ i) vs = wipe σ vs)
    (hj : ∀ i x, xs[i]? = some x → EvJ wj (τ i) H (zs i)) (hg' : ∀ i, i < xs.length → ∀ z ∈ zs i, ∀ H' Q, Q (ρ i z) H' → g' z (wipe (τ i) vs') H' Q) (hw' : ∀ i, i < xs.length → ∀ z ∈ zs i, wipe (ρ i z) vs' = wipe (τ i) vs')
    (he : ∀ i, i < xs.length → ∀ z ∈ zs i, EvS te (ρ i z) H (IsV (.int (f i z)))) :
    EvS (tSc2 w wi g wj g' te vs vs') σ H (fun v H' => ∃ (D : Addr) (S : Int → Bool) (n : Nat), v = .ref D ∧ H' D = some (SetO w D S n) ∧ H D = none ∧ n ≤ (flatN xs.length zs f).length ∧ ∀ k, S k = decide (k ∈ flatN xs.length zs f)) := fun H1 e Q q =>
  hi H1 e _ fun J H2 e2 W D hD => by
    have e02 := Same.trans e e2
    have hD0 : H D = none := Same.free e02 hD
    refine ⟨fun i m F => m = xs.length - i ∧ i ≤ xs.length ∧ SetSt w H2 D (flatN i zs f) F, ⟨xs.length, by omega, Nat.zero_le _, new_same hD, _, _, upd_same, Nat.zero_le _, fun k => by simp [flatN]⟩, ?_⟩
    rintro i m F ⟨rfl, hi, s1, S, n, sD, hn, hk⟩
    by_cases hlt : i < xs.length
    · refine .inr ⟨W.goes i F hlt s1, SetSt w H2 D (flatN (i + 1) zs f), fun F' p => ⟨xs.length - (i + 1), by omega, rfl, hlt, p⟩, fun x F' y => ?_⟩
      obtain ⟨rfl, hx⟩ := W.yields i F x F' hlt s1 y
      refine hg i x hx _ _ ⟨hw i hlt, hj i x hx _ (Same.trans e02 s1) _ fun J' W' => ?_⟩
      refine ⟨fun j k F => k = (zs i).length - j ∧ j ≤ (zs i).length ∧ SetSt w H2 D (flatN i zs f ++ ((zs i).take j).map (f i)) F, ⟨(zs i).length, by omega, Nat.zero_le _, s1, S, n, sD, by rw [List.take_zero, List.map_nil, List.append_nil]; exact hn, fun k => by rw [List.take_zero, List.map_nil, List.append_nil]; exact hk k⟩, ?_⟩
      rintro j k F ⟨rfl, hjl, t1, S', n', tD, hn', hk'⟩
      have bd : (flatN i zs f ++ ((zs i).take j).map (f i)).length ≤ 1000 := by
        have b1 := flatN_mono (zs := zs) (f := f) (show i + 1 ≤ xs.length from hlt)
        rw [flatN_succ, List.length_append, List.length_map] at b1
        rw [List.length_append, List.length_map, List.length_take]
        omega
      by_cases hlt' : j < (zs i).length
      · refine .inr ⟨W'.goes j F hlt' (Same.trans e02 t1), SetSt w H2 D (flatN i zs f ++ ((zs i).take (j + 1)).map (f i)), fun F' p => ⟨(zs i).length - (j + 1), by omega, rfl, hlt', p⟩, fun z F' y => ?_⟩
        obtain ⟨rfl, hzj⟩ := W'.yields j F z F' hlt' (Same.trans e02 t1) y
        have hzm : z ∈ zs i := List.mem_of_getElem? hzj
        refine hg' i hlt z hzm _ _ ⟨hw' i hlt z hzm, he i hlt z hzm _ (Same.trans e02 t1) _ fun v F4 e4 ev => ⟨f i z, S', n', ev, e4 _ _ tD, ?_, ?_⟩⟩
        · exact Nat.lt_of_le_of_lt (Nat.succ_le_succ (Nat.le_trans hn' bd)) (by decide)
        · have et : (zs i).take (j + 1) = (zs i).take j ++ [z] := by
            rw [List.take_succ, hzj]
            rfl
          rw [et, List.map_append, ← List.append_assoc]
          exact SetSt.put hD (Same.trans t1 e4) hn' hk'
      · have ej : j = (zs i).length := by omega
        subst ej
        refine .inl ⟨W'.stops F (Same.trans e02 t1), ?_⟩
        rw [flatN_succ]
        rw [List.take_length] at hn' hk'
        exact ⟨t1, S', n', tD, hn', hk'⟩
    · have ei : i = xs.length := by omega
      subst ei
      exact .inl ⟨W.stops F s1, q _ _ (Same.trans e2 s1) ⟨D, S, n, rfl, sD, hD0, hn, hk⟩⟩
end
end N0

/-! dicts of numbers by value: comprehensions, reading, items; x = {comprehension} -/
namespace N0
open PySem PySem.Spec PyProof.Rows L2 HT
section
variable {X : Cx} {K : PySem.W.Frag} {w : World}
theorem bo_sorted : bootBuiltins "sorted" = some (.builtin "sorted") := by decide +kernel
theorem kcr_sortedSet (hc : X.calm = true) (h : X.w = w := by rfl) : CallR X (.builtin "sorted") (rSortedSet w) := h ▸ cr_sortedSet hc
theorem kpe_sc2 {elt t0 i0 t1 i1 : Expr} {scope : Scope} {own : List (PySem.Str × Nat)} {vs' : List Nat} {pos : Pos} {wi wj : TI} {g g' : TG} {te : TE} (hc : X.calm = true) (hN : X.N.Nodup) (hi : PI X t0 i0 wi) (ok : BlkOk X.N X.env.scope scope own) (hv : ∀ i ∈ vs', i ∈ own.map (·.2)) (B : BlkR X scope t0 t1 i1 elt g g' wj te) (hw : X.w = w := by rfl)
    (hs : ∀ x, foldedSetIterable i0 X.env x = pure x := by intro _; rfl) (hs' : ∀ env x, foldedSetIterable i1 env x = pure x := by intro _ _; rfl) :
    PE X (Sc2 elt t0 i0 t1 i1 scope pos) (tSc2 w wi g wj g' te (own.map (·.2)) vs') := hw ▸ pe_sc2 hc hN hi ok hv B hs hs'
/-- y = {k: v for ..}: the target is stored within the block -/
theorem ps_setDc {i : Nat} {y : Str} {py : Pos} {kx vx tg iter : Expr} {ifs : List Expr} {scope : Scope} {own : List (Str × Nat)} {pos spos : Pos} {wi : TI} {g : TG} {tt : TT} {tk tv : TE} (hc : X.calm = true) (hN : X.N.Nodup) (hy : X.N[i]? = some y) (hyl : X.env.scope.names.lookup y = some .local)
    (hsw : swapsWith (.DictComp kx vx [⟨tg, iter, ifs, 0⟩] scope pos) (some (.Name y py)) spos.line X.env = pure true) (hi : PI X tg iter wi) (ok : BlkOk X.N X.env.scope scope own)
    (hg : ∀ s H C cl fp, PG (X.blk s H scope (compEnvC scope cl C X.env) fp) tg g) (ht : ∀ s H C cl fp, PTs (X.blk s H scope (compEnvC scope cl C X.env) fp) ifs tt)
    (hk : ∀ s H C cl fp, PE (X.blk s H scope (compEnvC scope cl C X.env) fp) kx tk) (he : ∀ s H C cl fp, PE (X.blk s H scope (compEnvC scope cl C X.env) fp) vx tv) (hs : ∀ x, foldedSetIterable iter X.env x = pure x := by intro _; rfl) :
    PS X (.Assign [.Name y py] (.DictComp kx vx [⟨tg, iter, ifs, 0⟩] scope pos) spos) (tAsg (tDc wi g tt tk tv (own.map (·.2))) (gName i)) := by
  refine ⟨fun pins s σ H D I h => ?_⟩
  rw [exec_Assign_Name_used _ _ _ _ hsw]
  refine wpAny_bind (wpAny_standAt (wpAny_bind (m := comprehension _ _ _ _ _ _ _ _ >>= fun _ => pure _) ?_))
  refine wpAny_bind (thn (dc_core (Qf := fun _ a => SP X pins D .next a) hc hN I hi ok hg ht hk he hs h fun L C a m F Ia q hn f => ?_) fun _ a hq => wpAny_pure (wpAny_pure hq))
  refine wpAny_assign_Name (store_ok2 (v := V.ref L) Ia hN hy (.inl hyl) rfl (fun b Ib ⟨r, sb, hr⟩ => ?_) (.inr hyl))
  obtain ⟨f0, f1, f2, f3, f4, f5⟩ := f
  have ne : C ≠ r := hr.elim (fun z => z ▸ f1) fun z e => f4 y r z e.symm
  exact ⟨m, hn.sameBut sb ne, fun k sk => ⟨_, F, Ib.turned (t' := b.toks) (fun p o hp e => (sk.2 p hp).trans e) f0 f1 f3 f4 f5, q⟩⟩
end
theorem swD_true {kx vx : Expr} {gs : List Comprehension} {scope : Scope} {pos py : Pos} {y : Str} {l : Nat} {env : Env} (hk : env.scope.kind = .function) (hy : env.scope.names.lookup y = some .local) (hl : (py.line == pos.line) = true)
    (ha : (scope.names.any fun (n, k) => n == y && (k == .local || k == .cell)) = false) : swapsWith (.DictComp kx vx gs scope pos) (some (.Name y py)) l env = pure true := by
  have ky : env.kindOf y = some .local := hy
  have hb : env.blockKind = .function := by rw [Env.blockKind, hk]; rfl
  rw [swapsWith]
  simp only [hb, ky, ha, Expr.pos, hl]
  rfl
section
variable {K : PySem.W.Frag} {H : Hp} {σ : L2.St}
/-- nothing stands: what is shown over it holds over every heap -/
abbrev hE : Hp := fun _ => none
theorem same_hE : Same hE H := fun _ _ h => nomatch h
theorem evs_up {te : TE} {P : V → Hp → Prop} (h : EvS te σ hE P) : EvS te σ H P := fun H1 _ Q q => h H1 same_hE Q q
abbrev kvI (ps : List (Int × Int)) : List (Key × V) := ps.map fun p => (Sum.inl p.1, V.int p.2)
theorem kvI_app (a b : List (Int × Int)) : kvI (a ++ b) = kvI a ++ kvI b := List.map_append
theorem kvI_at {ps : List (Int × Int)} {j : Nat} (h : j < ps.length) : (kvI ps)[j]? = some (Sum.inl ps[j].1, V.int ps[j].2) := by
  rw [List.getElem?_map, List.getElem?_eq_getElem h]
  rfl
theorem valV_kvI (x : Int) : ∀ ps : List (Int × Int), valV (kvI ps) (Sum.inl x) = (ps.find? fun p => decide (p.1 = x)).map fun p => V.int p.2
  | [] => rfl
  | p :: ps => by
    show valV ((Sum.inl p.1, V.int p.2) :: kvI ps) _ = _
    rw [List.find?_cons]
    by_cases h : p.1 = x
    · rw [valV_pos (by show Sum.inl p.1 = _; rw [h])]
      simp [h]
    · rw [valV_neg (by show ¬ (Sum.inl p.1 : Key) = _; intro q; exact h (Sum.inl.inj q)), valV_kvI x ps]
      simp [h]
theorem putK_new {kvs : List (Key × V)} {k : Key} {v : V} (h : valV kvs k = none) : putK kvs k v = kvs ++ [(k, v)] := by
  unfold putK
  rw [valV_any, h]
  rfl
theorem find_none {x : Int} {ps : List (Int × Int)} (h : x ∉ ps.map (·.1)) : (ps.find? fun p => decide (p.1 = x)) = none := by
  rw [List.find?_eq_none]
  intro p hp q
  exact h (List.mem_map.mpr ⟨p, hp, of_decide_eq_true q⟩)
/-- a dict comprehension over a walk -/
theorem dc_it {J : It} {n : Nat} {G : Hp → Prop} {Y : Nat → Hp → V → Hp → Prop} (w : Walk J n G Y) {g : TG} {tt : TT} {tk tv : TE} {vs : List Nat} {H1 : Hp} {D : Addr} {Qd : Hp → Prop} (Pv : Nat → Hp → Prop) (h0 : Pv 0 (upd H1 D (.dK []))) (hG : ∀ i F, i ≤ n → Pv i F → G F)
    (hs : ∀ i x F F', i < n → Pv i F → Y i F x F' → g x (wipe σ vs) F' fun ρ A => wipe ρ vs = wipe σ vs ∧ tt ρ A fun b B => if b = true then tk ρ B fun y C => tv ρ C fun z E => ∃ kvs k, y = kV k ∧ E D = some (.dK kvs) ∧ kvs.length < sizeLine ∧ Pv (i + 1) (upd E D (.dK (putK kvs k z))) else Pv (i + 1) B)
    (hd : ∀ F, Pv n F → Qd F) :
    ∃ W : Nat → Nat → Hp → Prop, (∃ m, W 0 m (upd H1 D (.dK []))) ∧ ∀ i m F, W i m F → (J.stop i F ∧ Qd F) ∨ (J.go i F ∧ ∃ Nx : Hp → Prop, (∀ F', Nx F' → ∃ m', m' < m ∧ W (i + 1) m' F') ∧ ∀ x F', J.yld i F x F' → g x (wipe σ vs) F' fun ρ A => wipe ρ vs = wipe σ vs ∧ tt ρ A fun b B =>
      if b = true then tk ρ B fun y C => tv ρ C fun z E => ∃ kvs k, y = kV k ∧ E D = some (.dK kvs) ∧ kvs.length < sizeLine ∧ Nx (upd E D (.dK (putK kvs k z))) else Nx B) := by
  refine ⟨fun i m F => m = n - i ∧ i ≤ n ∧ Pv i F, ⟨n, by omega, Nat.zero_le _, h0⟩, ?_⟩
  rintro i m F ⟨rfl, hi, p⟩
  have q := hG i F hi p
  by_cases hlt : i < n
  · exact .inr ⟨w.goes i F hlt q, Pv (i + 1), fun F' p' => ⟨n - (i + 1), by omega, rfl, hlt, p'⟩, fun x F' y => hs i x F F' hlt p (w.yields i F x F' hlt q y)⟩
  · have e : i = n := by omega
    subst e
    exact .inl ⟨w.stops F q, hd F p⟩
/-- {i: f i for i in ..}, over numbers all unlike -/
theorem es_dcI {wi : TI} {g : TG} {tk tv : TE} {vs : List Nat} {ns : List Int} (f : Int → Int) (τ : Int → L2.St) (hi : EvI wi σ H (ns.map V.int)) (nd : ns.Nodup) (hz : ns.length ≤ 100000)
    (hg : ∀ i ∈ ns, ∀ H' Q, Q (τ i) H' → g (.int i) (wipe σ vs) H' Q) (hw : ∀ i ∈ ns, wipe (τ i) vs = wipe σ vs) (hk : ∀ i ∈ ns, EvS tk (τ i) H (IsV (.int i))) (he : ∀ i ∈ ns, EvS tv (τ i) H (IsV (.int (f i)))) :
    EvS (tDc wi g tYes tk tv vs) σ H (fun v H' => ∃ D, v = .ref D ∧ H' D = some (.dK (kvI (ns.map fun i => (i, f i)))) ∧ H D = none) := fun H1 e Q q =>
  hi H1 e _ fun J H2 e2 W D hD => by
    have e02 := Same.trans e e2
    refine dc_it W (fun i F => Same H2 F ∧ i ≤ ns.length ∧ F D = some (.dK (kvI ((ns.take i).map fun i => (i, f i))))) ⟨new_same hD, Nat.zero_le _, upd_same⟩ (fun i F _ p => p.1) (fun i x F F' hlt p y => ?_) fun F p => ?_
    · obtain ⟨e3, _, d3⟩ := p
      obtain ⟨rfl, hx⟩ := y
      rw [List.length_map] at hlt
      rw [List.getElem?_map, List.getElem?_eq_getElem hlt] at hx
      cases hx
      have hm : ns[i] ∈ ns := List.getElem_mem _
      have et : ns.take (i + 1) = ns.take i ++ [ns[i]] := by
        rw [List.take_succ, List.getElem?_eq_getElem hlt]
        rfl
      refine hg _ hm _ _ ⟨hw _ hm, ?_⟩
      show tk _ _ _
      refine hk _ hm _ (Same.trans e02 e3) _ fun v H4 e4 ev => he _ hm _ (Same.trans (Same.trans e02 e3) e4) _ fun u H5 e5 eu => ⟨_, Sum.inl ns[i], ev, (Same.trans e4 e5) _ _ d3, Nat.lt_of_le_of_lt (m := 100000) ?_ (by decide), same_mut (Same.trans (Same.trans e3 e4) e5) hD, hlt, ?_⟩
      · rw [List.length_map, List.length_map, List.length_take]
        omega
      · have nk : valV (kvI ((ns.take i).map fun i => (i, f i))) (Sum.inl ns[i]) = none := by
          rw [valV_kvI, find_none]
          · rfl
          · rw [List.map_map]
            intro hmem
            obtain ⟨k, hk, ek⟩ := List.mem_map.mp hmem
            obtain ⟨j, hj, rfl⟩ := List.mem_iff_getElem.mp hk
            rw [List.getElem_take] at ek
            rw [List.length_take] at hj
            have := (List.getElem_inj (h₀ := by omega) (h₁ := hlt) nd).mp (show ns[j] = ns[i] from ek)
            omega
        rw [upd_same, putK_new nk, et, eu, List.map_append, kvI_app]
        rfl
    · obtain ⟨e3, _, d3⟩ := p
      rw [List.length_map, List.take_length] at d3
      exact q _ _ (Same.trans e2 e3) ⟨D, rfl, d3, Same.free e02 hD⟩
/-- d = {k: f k v for k, v in d.items()} -/
theorem dcItems_seq {i a b : Nat} {tv : TE} {x : TS} {D : Ends} {d : Addr} {ps : List (Int × Int)} (f : Int → Int → Int) (τ : Int → Int → L2.St) (hv : σ[i]? = some (some (.ref d))) (hd : H d = some (.dK (kvI ps))) (nd : (ps.map (·.1)).Nodup) (hz : ps.length ≤ 1000)
    (hτ : ∀ k v, ((wipe σ [a, b]).set a (some (.int k))).set b (some (.int v)) = τ k v) (hw : ∀ k v, wipe (τ k v) [a, b] = wipe σ [a, b]) (ha : ∀ k v, (τ k v)[a]? = some (some (.int k))) (he : ∀ k v, EvS tv (τ k v) hE (IsV (.int (f k v))))
    (rest : ∀ D' H', Same H H' → H' D' = some (.dK (kvI (ps.map fun p => (p.1, f p.1 p.2)))) → H D' = none → x D (σ.set i (some (.ref D'))) H') :
    tSeq (tLock (tAsg (tDc (iItems (tVar i)) (gTup K 2 (gCons (gName a) (gCons (gName b) gNil))) tYes (tVar a) tv [a, b]) (gName i))) x D σ H := by
  refine ⟨d, _, hd, True.intro, fun od => ⟨.ref d, hv, d, od, kvI ps, rfl, upd_same, fun D' hD' => ?_⟩⟩
  have nDd : D' ≠ d := fun z => by rw [z, upd_same] at hD'; cases hD'
  have hD0 : H D' = none := by rwa [upd_ne nDd] at hD'
  refine dc_it (walk_items (d := d) (o := od)) (fun j F => Same (upd H d (.frz od (.dK (kvI ps)))) F ∧ j ≤ ps.length ∧ F D' = some (.dK (kvI ((ps.take j).map fun p => (p.1, f p.1 p.2))))) ⟨new_same hD', Nat.zero_le _, upd_same⟩ (fun j F _ p => p.1 _ _ upd_same) (fun j y F F' hlt p z => ?_) fun F p => ?_
  · obtain ⟨e3, _, d3⟩ := p
    obtain ⟨T, k', v', rfl, hT, rfl, h1, h2⟩ := z
    rw [List.length_map] at hlt
    have h1 : (kvI ps)[j]?.map (fun kv => kV kv.1) = some k' := h1
    have h2 : (kvI ps)[j]?.map Prod.snd = some v' := h2
    rw [kvI_at hlt] at h1 h2
    cases h1
    cases h2
    have et : ps.take (j + 1) = ps.take j ++ [ps[j]] := by
      rw [List.take_succ, List.getElem?_eq_getElem hlt]
      rfl
    have nT : T ≠ D' := fun z => by rw [z, d3] at hT; cases hT
    refine ⟨T, _, rfl, tup_of upd_same, rfl, _, _, rfl, _, _, rfl, rfl, ?_⟩
    rw [show ((wipe σ [a, b]).set a (some (kV (Sum.inl ps[j].1)))).set b (some (V.int ps[j].2)) = τ ps[j].1 ps[j].2 from hτ _ _]
    refine ⟨hw _ _, _, ha _ _, ?_⟩
    have e4 : Same (upd H d (.frz od (.dK (kvI ps)))) (upd F T (.tup [V.int ps[j].1, V.int ps[j].2])) := Same.trans e3 (new_same hT)
    refine he _ _ _ same_hE _ fun u H5 e5 eu => ⟨_, Sum.inl ps[j].1, rfl, e5 _ _ ((new_same hT) _ _ d3), Nat.lt_of_le_of_lt (m := 1000) ?_ (by decide), same_mut (Same.trans e4 e5) hD', hlt, ?_⟩
    · rw [List.length_map, List.length_map, List.length_take]
      omega
    · have nk : valV (kvI ((ps.take j).map fun p => (p.1, f p.1 p.2))) (Sum.inl ps[j].1) = none := by
        rw [valV_kvI, find_none]
        · rfl
        · rw [List.map_map]
          intro hmem
          obtain ⟨k, hk, ek⟩ := List.mem_map.mp hmem
          obtain ⟨m, hm, rfl⟩ := List.mem_iff_getElem.mp hk
          rw [List.getElem_take] at ek
          rw [List.length_take] at hm
          have l0 : m < (ps.map (·.1)).length := by rw [List.length_map]; omega
          have l1 : j < (ps.map (·.1)).length := by rw [List.length_map]; exact hlt
          have := (List.getElem_inj (h₀ := l0) (h₁ := l1) nd).mp (by rw [List.getElem_map, List.getElem_map]; exact ek)
          omega
      rw [upd_same, putK_new nk, et, eu, List.map_append, kvI_app]
      rfl
  · obtain ⟨e3, _, d3⟩ := p
    rw [List.length_map, List.take_length] at d3
    refine ⟨e3 _ _ upd_same, rest D' _ (fun c o hc => ?_) ?_ hD0⟩
    · by_cases hcd : c = d
      · rw [hcd] at hc ⊢
        rw [upd_same, ← hd, hc]
      · rw [upd_ne hcd]
        exact e3 _ _ (by rw [upd_ne hcd]; exact hc)
    · rw [upd_ne nDd]
      exact d3
/-- d[k], the key there -/
theorem es_dgI {td ty : TE} {d : Addr} {ps : List (Int × Int)} {k v : Int} (hd : H d = some (.dK (kvI ps))) (h1 : EvS td σ H (IsV (.ref d))) (h2 : EvS ty σ H (IsV (.int k))) (hf : (ps.find? fun p => decide (p.1 = k)).map (·.2) = some v) : EvS (tDGet td ty) σ H (IsV (.int v)) := fun H1 e Q q =>
  h1 H1 e _ fun x H2 e2 ex => h2 H2 (Same.trans e e2) _ fun y H3 e3 ey => by
    subst ex ey
    refine ⟨d, .int v, rfl, ?_, q _ _ (Same.trans e2 e3) rfl⟩
    have := DGet.k (k := Sum.inl k) ((Same.trans (Same.trans e e2) e3) _ _ hd)
    rw [valV_kvI] at this
    cases hz : ps.find? fun p => decide (p.1 = k) with
    | none => rw [hz] at hf; cases hf
    | some p =>
      rw [hz] at this hf
      cases hf
      exact this
end
end N0

/-! more by value: [.. for .. in .. for .. in ..], all(..), range(a, b), a field stored -/
namespace N0
open PySem PySem.Spec PyProof.Rows L2 HT
/-- what isinstance asks of an own class -/
structure InstK (K : PySem.W.Frag) (C : Addr) : Prop where
  ha : PySem.W.findIn K (.ref C) "__class__" = some (some (.builtin "object.__class__"))
  hn : PySem.W.specialIn K (.builtin "object.__class__") "__get__" = some (some (.builtin "getset_descriptor.__get__"))
  htk : PySem.W.takesIn K (.builtin "object.__class__") = some true
  hm : PySem.W.mroIn K C (.type "object") = some true
theorem kit_no {K : PySem.W.Frag} {C : Addr} {T : String} (h1 : PySem.W.isClsIn K C = true) (h2 : PySem.W.typeIn K (.ref C) = some (.type "type")) (h3 : PySem.W.subIn K (.type T) (.ref C) = some false) : PySem.W.kitOne K (.type T) (.ref C) = some false := by
  have h1 : (PySem.W.clsIn K C).isSome = true := h1
  unfold PySem.W.kitOne
  rw [if_neg (by simp)]
  unfold PySem.W.kitCls
  simp only
  rw [if_pos (by rw [h1, h2]; decide), h3]
theorem kit_self {K : PySem.W.Frag} {C : Addr} : PySem.W.kitOne K (.ref C) (.ref C) = some true := if_pos (by simp)
section
variable {X : Cx} {K : PySem.W.Frag} {o e : Expr} {ta tv : TE} {f : Str} {pos pos' : Pos}
theorem kps_fld (ha : PE X o ta) (hv : PE X e tv) (hs : swapsWith e (some (.Attribute o f pos')) pos.line X.env = pure false := by rfl) (h : X.K = K := by rfl) : PS X (.Assign [.Attribute o f pos'] e pos) (sFld K ta tv f) := h ▸ ps_fld ha hv hs
end
section
variable {K : PySem.W.Frag} {H : Hp} {σ : L2.St}
theorem ei_rng2 {ta tb : TE} {i j : Int} (ha : EvS ta σ H (IsV (.int i))) (hb : EvS tb σ H (IsV (.int j))) (h1 : -100000 ≤ i) (h2 : i ≤ 100000) (h3 : -100000 ≤ j) (h4 : j ≤ 100000) : EvI (iRng2 (tCons ta (tCons tb tNil))) σ H (rgV i j) := fun H1 e R r =>
  ha H1 e _ fun v H2 e2 ev => hb H2 (Same.trans e e2) _ fun u H3 e3 eu => by
    refine ⟨i, j, by rw [show v = _ from ev, show u = _ from eu], ⟨by omega, by omega, by omega, by omega⟩, r _ H3 (Same.trans e2 e3) ?_⟩
    rw [rgV_length]
    refine walk_range.mono (fun _ _ => True.intro) fun k G x G' hk _ y => ⟨y.1, ?_⟩
    unfold rgV
    rw [List.getElem?_map, List.getElem?_range hk, y.2]
    rfl
/-- [f x z for x in xs for z in zs x] -/
theorem es_lc2 {wi wj : TI} {g g' : TG} {te : TE} {vs vs' : List Nat} {xs : List V} (zs : Nat → List V) (f : Nat → V → V) (τ : Nat → L2.St) (ρ : Nat → V → L2.St)
    (hi : EvI wi σ H xs) (hz : (flatN xs.length zs f).length ≤ 1000) (hg : ∀ i x, xs[i]? = some x → ∀ H' Q, Q (τ i) H' → g x (wipe σ vs) H' Q) (hw : ∀ i, i < xs.length → wipe (τ i) vs = wipe σ vs)
    (hj : ∀ i x, xs[i]? = some x → EvJ wj (τ i) H (zs i)) (hg' : ∀ i, i < xs.length → ∀ z ∈ zs i, ∀ H' Q, Q (ρ i z) H' → g' z (wipe (τ i) vs') H' Q) (hw' : ∀ i, i < xs.length → ∀ z ∈ zs i, wipe (ρ i z) vs' = wipe (τ i) vs')
    (he : ∀ i, i < xs.length → ∀ z ∈ zs i, EvS te (ρ i z) H (IsV (f i z))) :
    EvS (tLc2 wi g tYes wj g' tYes te vs vs') σ H (NewL H (flatN xs.length zs f)) := fun H1 e Q q =>
  hi H1 e _ fun J H2 e2 W D hD => by
    have e02 := Same.trans e e2
    have hD0 : H D = none := Same.free e02 hD
    refine ⟨fun i m F => m = xs.length - i ∧ i ≤ xs.length ∧ Same H2 F ∧ F D = some (.lst (flatN i zs f)), ⟨xs.length, by omega, Nat.zero_le _, new_same hD, upd_same⟩, ?_⟩
    rintro i m F ⟨rfl, hi, s1, sD⟩
    by_cases hlt : i < xs.length
    · refine .inr ⟨W.goes i F hlt s1, fun F => Same H2 F ∧ F D = some (.lst (flatN (i + 1) zs f)), fun F' p => ⟨xs.length - (i + 1), by omega, rfl, hlt, p⟩, fun x F' y => ?_⟩
      obtain ⟨rfl, hx⟩ := W.yields i F x F' hlt s1 y
      refine hg i x hx _ _ ⟨hw i hlt, ?_⟩
      show wj _ _ _
      refine hj i x hx _ (Same.trans e02 s1) _ fun J' W' => ?_
      refine ⟨fun j k F => k = (zs i).length - j ∧ j ≤ (zs i).length ∧ Same H2 F ∧ F D = some (.lst (flatN i zs f ++ ((zs i).take j).map (f i))), ⟨(zs i).length, by omega, Nat.zero_le _, s1, by rw [List.take_zero, List.map_nil, List.append_nil]; exact sD⟩, ?_⟩
      rintro j k F ⟨rfl, hjl, t1, tD⟩
      have bd : (flatN i zs f ++ ((zs i).take j).map (f i)).length ≤ 1000 := by
        have b1 := flatN_mono (zs := zs) (f := f) (show i + 1 ≤ xs.length from hlt)
        rw [flatN_succ, List.length_append, List.length_map] at b1
        rw [List.length_append, List.length_map, List.length_take]
        omega
      by_cases hlt' : j < (zs i).length
      · refine .inr ⟨W'.goes j F hlt' (Same.trans e02 t1), fun F => Same H2 F ∧ F D = some (.lst (flatN i zs f ++ ((zs i).take (j + 1)).map (f i))), fun F' p => ⟨(zs i).length - (j + 1), by omega, rfl, hlt', p⟩, fun z F' y => ?_⟩
        obtain ⟨rfl, hzj⟩ := W'.yields j F z F' hlt' (Same.trans e02 t1) y
        have hzm : z ∈ zs i := List.mem_of_getElem? hzj
        refine hg' i hlt z hzm _ _ ⟨hw' i hlt z hzm, ?_⟩
        show te _ _ _
        refine he i hlt z hzm _ (Same.trans e02 t1) _ fun v F4 e4 ev => ⟨_, e4 _ _ tD, Nat.lt_of_le_of_lt bd (by decide), same_mut (Same.trans t1 e4) hD, ?_⟩
        have et : (zs i).take (j + 1) = (zs i).take j ++ [z] := by
          rw [List.take_succ, hzj]
          rfl
        rw [et, List.map_append, ← List.append_assoc, upd_same, show v = f i z from ev]
        rfl
      · have ej : j = (zs i).length := by omega
        subst ej
        refine .inl ⟨W'.stops F (Same.trans e02 t1), t1, ?_⟩
        rw [flatN_succ]
        rw [List.take_length] at tD
        exact tD
    · have ei : i = xs.length := by omega
      subst ei
      exact .inl ⟨W.stops F s1, q _ _ (Same.trans e2 s1) ⟨D, rfl, sD, hD0⟩⟩
/-- isinstance(x, C), C an own class -/
theorem es_isC {te tc : TE} {C : Addr} {b : Bool} (h : EvS te σ H (fun v H' => ∃ t, TyX K H' v t ∧ PySem.W.kitOne K t (.ref C) = some b)) (hc : EvS tc σ H (IsV (.ref C))) : EvS (tCB (rIsi K) (tCons te (tCons tc tNil))) σ H (IsV (.bl b)) := fun H1 e Q q =>
  h H1 e _ fun v H2 e2 ⟨t, ty, k⟩ => hc H2 (Same.trans e e2) _ fun u H3 e3 eu => by
    subst eu
    exact ⟨v, _, t, _, b, rfl, .own C, tyx_same e3 ty, k, q _ _ (Same.trans e2 e3) rfl⟩
/-- a, b = e, f, by their values -/
theorem par_seq {i j : Nat} {ta tb : TE} {x : TS} {D : Ends} {v u : V} (h1 : EvS ta σ H (IsV v)) (h2 : EvS tb σ H (IsV u)) (rest : ∀ H', Same H H' → x D ((σ.set i (some v)).set j (some u)) H') : tSeq (tPar i j (tCons ta (tCons tb tNil))) x D σ H :=
  h1 H (Same.refl _) _ fun v' H1 e1 ev => h2 H1 e1 _ fun u' H2 e2 eu => ⟨v', u', rfl, by rw [ev, eu]; exact rest H2 (Same.trans e1 e2)⟩
theorem pair_seq {i j : Nat} {ta tb : TE} {x : TS} {D : Ends} {v u : V} (h1 : EvS ta σ H (IsV v)) (h2 : EvS tb σ H (IsV u)) (rest : ∀ H', Same H H' → x D ((σ.set i (some v)).set j (some u)) H') : tSeq (tAsg (tTup (tCons ta (tCons tb tNil))) (gTup K 2 (gCons (gName i) (gCons (gName j) gNil)))) x D σ H :=
  h1 H (Same.refl _) _ fun v' H1 e1 ev => h2 H1 e1 _ fun u' H2 e2 eu => ⟨by show 2 ≤ sizeLine; decide, fun p hp => ⟨p, _, rfl, tup_of upd_same, rfl, _, _, rfl, _, _, rfl, rfl, by rw [ev, eu]; exact rest _ (Same.trans (Same.trans e1 e2) (new_same hp))⟩⟩
theorem es_min2 {ta tb : TE} {i j : Int} (h1 : EvS ta σ H (IsV (.int i))) (h2 : EvS tb σ H (IsV (.int j))) : EvS (tCB (fun xs H Q => ∃ i j, xs = [V.int i, V.int j] ∧ Q (V.int (if j < i then j else i)) H) (tCons ta (tCons tb tNil))) σ H (IsV (.int (if j < i then j else i))) := fun H1 e Q q =>
  h1 H1 e _ fun v H2 e2 ev => h2 H2 (Same.trans e e2) _ fun u H3 e3 eu => ⟨i, j, by rw [show v = _ from ev, show u = _ from eu], q _ _ (Same.trans e2 e3) rfl⟩
theorem es_max2 {ta tb : TE} {i j : Int} (h1 : EvS ta σ H (IsV (.int i))) (h2 : EvS tb σ H (IsV (.int j))) : EvS (tCB (fun xs H Q => ∃ i j, xs = [V.int i, V.int j] ∧ Q (V.int (if j > i then j else i)) H) (tCons ta (tCons tb tNil))) σ H (IsV (.int (if j > i then j else i))) := fun H1 e Q q =>
  h1 H1 e _ fun v H2 e2 ev => h2 H2 (Same.trans e e2) _ fun u H3 e3 eu => ⟨i, j, by rw [show v = _ from ev, show u = _ from eu], q _ _ (Same.trans e2 e3) rfl⟩
theorem es_all {te : TE} {bs : List Bool} (h : EvS te σ H (NewL H (bs.map V.bl))) : EvS (tCB (rAll K) (tCons te tNil)) σ H (IsV (.bl (bs.all id))) := es_cb1 h fun v H1 e ⟨D, ev, d, _⟩ Q q => ⟨D, bs, by rw [ev], lst_of d, q _ _ (Same.refl _) rfl⟩
/-- sorted(a set of numbers): those of ms -/
theorem asc_ext : ∀ {a b : List Int}, a.Pairwise (· < ·) → b.Pairwise (· < ·) → (∀ k, k ∈ a ↔ k ∈ b) → a = b
  | [], [], _, _, _ => rfl
  | [], y :: b, _, _, h => nomatch (h y).mpr List.mem_cons_self
  | x :: a, [], _, _, h => nomatch (h x).mp List.mem_cons_self
  | x :: a, y :: b, ha, hb, h => by
    obtain ⟨a1, a2⟩ := List.pairwise_cons.mp ha
    obtain ⟨b1, b2⟩ := List.pairwise_cons.mp hb
    have exy : x = y := by
      rcases List.mem_cons.mp ((h x).mp List.mem_cons_self) with e | e
      · exact e
      · rcases List.mem_cons.mp ((h y).mpr List.mem_cons_self) with e' | e'
        · exact e'.symm
        · have := b1 _ e
          have := a1 _ e'
          omega
    subst exy
    congr 1
    refine asc_ext a2 b2 fun k => ⟨fun hk => ?_, fun hk => ?_⟩
    · rcases List.mem_cons.mp ((h k).mp (List.mem_cons_of_mem _ hk)) with e | e
      · have := a1 k hk
        omega
      · exact e
    · rcases List.mem_cons.mp ((h k).mpr (List.mem_cons_of_mem _ hk)) with e | e
      · have := b1 k hk
        omega
      · exact e
theorem es_sortedI {w : World} {te : TE} {L ms : List Int} (h : EvS te σ H (fun v H' => ∃ (D : Addr) (S : Int → Bool) (n : Nat), v = .ref D ∧ H' D = some (SetO w D S n) ∧ H D = none ∧ n ≤ L.length ∧ ∀ k, S k = decide (k ∈ L)))
    (hz : L.length < 64) (hs : ms.Pairwise (· < ·)) (hm : ∀ k, k ∈ ms ↔ k ∈ L) : EvS (tCB (rSortedSet w) (tCons te tNil)) σ H (NewL H (ms.map V.int)) := es_cb1 h fun v H1 e ⟨D, S, n, ev, d, hD, hn, hk⟩ Q q =>
  ⟨D, S, n, by rw [ev], d, by omega, fun ns p h1 h2 h3 hp => by
    have : ns = ms := asc_ext h1 hs fun k => by rw [h2 k, hk k, hm k, decide_eq_true_iff]
    subst this
    exact q _ _ (new_same hp) ⟨p, rfl, upd_same, Same.free e hp⟩⟩
end
end N0

namespace Pr
open PySem L2 N0
/-! ### the text by places -/
def topS (i : Nat) : Stmt := PySem.Challenge.pw_noroadback_k23_whole_webs_and_their_road.main.body.getD i (.Pass ⟨0, 0, 0, 0⟩)
abbrev st_reduced : Stmt := topS 1
abbrev nm_reduced : List Str := ["row", "kept", "entry"]
theorem sc_reduced : FnScope nm_reduced ["row"] (defScope st_reduced) := ⟨rfl, rfl, rfl, by decide +kernel, rfl, by decide +kernel, by decide +kernel⟩
abbrev st_opposite : Stmt := topS 2
abbrev nm_opposite : List Str := ["row", "entry"]
theorem sc_opposite : FnScope nm_opposite ["row"] (defScope st_opposite) := ⟨rfl, rfl, rfl, by decide +kernel, rfl, by decide +kernel, by decide +kernel⟩
abbrev st_split_core : Stmt := topS 3
abbrev nm_split_core : List Str := ["row", "size", "depth"]
theorem sc_split_core : FnScope nm_split_core ["row"] (defScope st_split_core) := ⟨rfl, rfl, rfl, by decide +kernel, rfl, by decide +kernel, by decide +kernel⟩
abbrev st_rotated : Stmt := topS 4
abbrev nm_rotated : List Str := ["row", "start"]
theorem sc_rotated : FnScope nm_rotated ["row", "start"] (defScope st_rotated) := ⟨rfl, rfl, rfl, by decide +kernel, rfl, by decide +kernel, by decide +kernel⟩
abbrev st_least_start : Stmt := topS 5
abbrev nm_least_start : List Str := ["row", "size", "first", "second", "agreed", "one", "other"]
theorem sc_least_start : FnScope nm_least_start ["row"] (defScope st_least_start) := ⟨rfl, rfl, rfl, by decide +kernel, rfl, by decide +kernel, by decide +kernel⟩
abbrev st_ring_of : Stmt := topS 6
abbrev nm_ring_of : List Str := ["row", "middle"]
theorem sc_ring_of : FnScope nm_ring_of ["row"] (defScope st_ring_of) := ⟨rfl, rfl, rfl, by decide +kernel, rfl, by decide +kernel, by decide +kernel⟩
abbrev st_is_integer : Stmt := topS 8
abbrev nm_is_integer : List Str := ["value"]
theorem sc_is_integer : FnScope nm_is_integer ["value"] (defScope st_is_integer) := ⟨rfl, rfl, rfl, by decide +kernel, rfl, by decide +kernel, by decide +kernel⟩
abbrev st_is_within : Stmt := topS 9
abbrev nm_is_within : List Str := ["value", "least", "most"]
theorem sc_is_within : FnScope nm_is_within ["value", "least", "most"] (defScope st_is_within) := ⟨rfl, rfl, rfl, by decide +kernel, rfl, by decide +kernel, by decide +kernel⟩
abbrev st_entries_of : Stmt := topS 17
abbrev nm_entries_of : List Str := ["letters", "entry"]
theorem sc_entries_of : FnScope nm_entries_of ["letters"] (defScope st_entries_of) := ⟨rfl, rfl, rfl, by decide +kernel, rfl, by decide +kernel, by decide +kernel⟩
abbrev st_begin_of : Stmt := topS 19
abbrev nm_begin_of : List Str := ["ties", "tie"]
theorem sc_begin_of : FnScope nm_begin_of ["ties", "tie"] (defScope st_begin_of) := ⟨rfl, rfl, rfl, by decide +kernel, rfl, by decide +kernel, by decide +kernel⟩
abbrev st_end_of : Stmt := topS 20
abbrev nm_end_of : List Str := ["ties", "tie"]
theorem sc_end_of : FnScope nm_end_of ["ties", "tie"] (defScope st_end_of) := ⟨rfl, rfl, rfl, by decide +kernel, rfl, by decide +kernel, by decide +kernel⟩
abbrev st_points_in : Stmt := topS 21
abbrev nm_points_in : List Str := ["ties", "pair", "point"]
theorem sc_points_in : FnScope nm_points_in ["ties"] (defScope st_points_in) := ⟨rfl, rfl, rfl, by decide +kernel, rfl, by decide +kernel, by decide +kernel⟩
abbrev st_beginnings_at : Stmt := topS 22
abbrev nm_beginnings_at : List Str := ["ties", "point", "tie"]
theorem sc_beginnings_at : FnScope nm_beginnings_at ["ties", "point"] (defScope st_beginnings_at) := ⟨rfl, rfl, rfl, by decide +kernel, rfl, by decide +kernel, by decide +kernel⟩
abbrev st_is_road_in : Stmt := topS 23
abbrev nm_is_road_in : List Str := ["ties", "value", "one", "other", "tie"]
theorem sc_is_road_in : FnScope nm_is_road_in ["ties", "value"] (defScope st_is_road_in) := ⟨rfl, rfl, rfl, by decide +kernel, rfl, by decide +kernel, by decide +kernel⟩
abbrev st_is_round_in : Stmt := topS 24
abbrev nm_is_round_in : List Str := ["ties", "road"]
theorem sc_is_round_in : FnScope nm_is_round_in ["ties", "road"] (defScope st_is_round_in) := ⟨rfl, rfl, rfl, by decide +kernel, rfl, by decide +kernel, by decide +kernel⟩
abbrev st_parts_by : Stmt := topS 25
abbrev nm_parts_by : List Str := ["ties", "chosen", "parts", "tie", "one", "other", "kept", "lost", "point", "part"]
theorem sc_parts_by : FnScope nm_parts_by ["ties", "chosen"] (defScope st_parts_by) := ⟨rfl, rfl, rfl, by decide +kernel, rfl, by decide +kernel, by decide +kernel⟩
abbrev st_pieces_in : Stmt := topS 26
abbrev nm_pieces_in : List Str := ["ties", "chosen", "parts", "pieces", "tie", "piece"]
theorem sc_pieces_in : FnScope nm_pieces_in ["ties", "chosen"] (defScope st_pieces_in) := ⟨rfl, rfl, rfl, by decide +kernel, rfl, by decide +kernel, by decide +kernel⟩
abbrev st_rank_of_ties : Stmt := topS 27
abbrev nm_rank_of_ties : List Str := ["ties"]
theorem sc_rank_of_ties : FnScope nm_rank_of_ties ["ties"] (defScope st_rank_of_ties) := ⟨rfl, rfl, rfl, by decide +kernel, rfl, by decide +kernel, by decide +kernel⟩
abbrev st_are_ties : Stmt := topS 30
abbrev nm_are_ties : List Str := ["value", "points", "pair", "point"]
theorem sc_are_ties : FnScope nm_are_ties ["value"] (defScope st_are_ties) := ⟨rfl, rfl, rfl, by decide +kernel, rfl, by decide +kernel, by decide +kernel⟩
abbrev st_check_web : Stmt := topS 32
abbrev nm_check_web : List Str := ["web"]
theorem sc_check_web : FnScope nm_check_web ["web"] (defScope st_check_web) := ⟨rfl, rfl, rfl, by decide +kernel, rfl, by decide +kernel, by decide +kernel⟩
abbrev st_is_directed : Stmt := topS 33
abbrev nm_is_directed : List Str := ["web", "value"]
theorem sc_is_directed : FnScope nm_is_directed ["web", "value"] (defScope st_is_directed) := ⟨rfl, rfl, rfl, by decide +kernel, rfl, by decide +kernel, by decide +kernel⟩
abbrev st_check_directed : Stmt := topS 34
abbrev nm_check_directed : List Str := ["web", "tie"]
theorem sc_check_directed : FnScope nm_check_directed ["web", "tie"] (defScope st_check_directed) := ⟨rfl, rfl, rfl, by decide +kernel, rfl, by decide +kernel, by decide +kernel⟩
abbrev st_check_point : Stmt := topS 35
abbrev nm_check_point : List Str := ["web", "point"]
theorem sc_check_point : FnScope nm_check_point ["web", "point"] (defScope st_check_point) := ⟨rfl, rfl, rfl, by decide +kernel, rfl, by decide +kernel, by decide +kernel⟩
abbrev st_check_road : Stmt := topS 36
abbrev nm_check_road : List Str := ["web", "road"]
theorem sc_check_road : FnScope nm_check_road ["web", "road"] (defScope st_check_road) := ⟨rfl, rfl, rfl, by decide +kernel, rfl, by decide +kernel, by decide +kernel⟩
abbrev st_tight_round : Stmt := topS 37
abbrev nm_tight_round : List Str := ["web", "road"]
theorem sc_tight_round : FnScope nm_tight_round ["web", "road"] (defScope st_tight_round) := ⟨rfl, rfl, rfl, by decide +kernel, rfl, by decide +kernel, by decide +kernel⟩
abbrev st__law_jar : Stmt := topS 39
abbrev nm__law_jar : List Str := ["script", "spot", "cell", "great", "mixed"]
theorem sc__law_jar : FnScope nm__law_jar ["script", "spot"] (defScope st__law_jar) := ⟨rfl, rfl, rfl, by decide +kernel, rfl, by decide +kernel, by decide +kernel⟩
abbrev st__law_pour : Stmt := topS 40
abbrev nm__law_pour : List Str := ["jar", "total", "found", "one", "two"]
theorem sc__law_pour : FnScope nm__law_pour ["jar", "total"] (defScope st__law_pour) := ⟨rfl, rfl, rfl, by decide +kernel, rfl, by decide +kernel, by decide +kernel⟩
abbrev st__law_choose : Stmt := topS 41
abbrev nm__law_choose : List Str := ["jar", "items"]
theorem sc__law_choose : FnScope nm__law_choose ["jar", "items"] (defScope st__law_choose) := ⟨rfl, rfl, rfl, by decide +kernel, rfl, by decide +kernel, by decide +kernel⟩
abbrev st__law_begin : Stmt := topS 42
abbrev nm__law_begin : List Str := ["ties", "tie"]
theorem sc__law_begin : FnScope nm__law_begin ["ties", "tie"] (defScope st__law_begin) := ⟨rfl, rfl, rfl, by decide +kernel, rfl, by decide +kernel, by decide +kernel⟩
abbrev st__law_end : Stmt := topS 43
abbrev nm__law_end : List Str := ["ties", "tie"]
theorem sc__law_end : FnScope nm__law_end ["ties", "tie"] (defScope st__law_end) := ⟨rfl, rfl, rfl, by decide +kernel, rfl, by decide +kernel, by decide +kernel⟩
abbrev st__law_directed : Stmt := topS 44
abbrev nm__law_directed : List Str := ["ties"]
theorem sc__law_directed : FnScope nm__law_directed ["ties"] (defScope st__law_directed) := ⟨rfl, rfl, rfl, by decide +kernel, rfl, by decide +kernel, by decide +kernel⟩
abbrev st__law_back : Stmt := topS 45
abbrev nm__law_back : List Str := ["row", "tie"]
theorem sc__law_back : FnScope nm__law_back ["row"] (defScope st__law_back) := ⟨rfl, rfl, rfl, by decide +kernel, rfl, by decide +kernel, by decide +kernel⟩
abbrev st__law_bare : Stmt := topS 46
abbrev nm__law_bare : List Str := ["row", "found", "tie"]
theorem sc__law_bare : FnScope nm__law_bare ["row"] (defScope st__law_bare) := ⟨rfl, rfl, rfl, by decide +kernel, rfl, by decide +kernel, by decide +kernel⟩
abbrev st__law_ring : Stmt := topS 47
abbrev nm__law_ring : List Str := ["row", "left", "at"]
theorem sc__law_ring : FnScope nm__law_ring ["row"] (defScope st__law_ring) := ⟨rfl, rfl, rfl, by decide +kernel, rfl, by decide +kernel, by decide +kernel⟩
abbrev st__law_shuffled : Stmt := topS 48
abbrev nm__law_shuffled : List Str := ["jar", "items", "left", "found", "turn"]
theorem sc__law_shuffled : FnScope nm__law_shuffled ["jar", "items"] (defScope st__law_shuffled) := ⟨rfl, rfl, rfl, by decide +kernel, rfl, by decide +kernel, by decide +kernel⟩
abbrev st__law_web_drawn : Stmt := topS 49
abbrev nm__law_web_drawn : List Str := ["jar", "most", "further", "points", "ties", "point", "other", "turn", "begin", "names", "end"]
theorem sc__law_web_drawn : FnScope nm__law_web_drawn ["jar", "most", "further"] (defScope st__law_web_drawn) := ⟨rfl, rfl, rfl, by decide +kernel, rfl, by decide +kernel, by decide +kernel⟩
abbrev st__law_points : Stmt := topS 50
abbrev nm__law_points : List Str := ["ties", "pair"]
theorem sc__law_points : FnScope nm__law_points ["ties"] (defScope st__law_points) := ⟨rfl, rfl, rfl, by decide +kernel, rfl, by decide +kernel, by decide +kernel⟩
abbrev st__law_beginnings : Stmt := topS 51
abbrev nm__law_beginnings : List Str := ["ties", "point", "tie"]
theorem sc__law_beginnings : FnScope nm__law_beginnings ["ties", "point"] (defScope st__law_beginnings) := ⟨rfl, rfl, rfl, by decide +kernel, rfl, by decide +kernel, by decide +kernel⟩
abbrev st__law_walk : Stmt := topS 52
abbrev nm__law_walk : List Str := ["jar", "ties", "point", "many", "found", "turn", "some", "tie"]
theorem sc__law_walk : FnScope nm__law_walk ["jar", "ties", "point", "many"] (defScope st__law_walk) := ⟨rfl, rfl, rfl, by decide +kernel, rfl, by decide +kernel, by decide +kernel⟩
abbrev st__law_is_road : Stmt := topS 53
abbrev nm__law_is_road : List Str := ["ties", "value", "tie", "one", "other"]
theorem sc__law_is_road : FnScope nm__law_is_road ["ties", "value"] (defScope st__law_is_road) := ⟨rfl, rfl, rfl, by decide +kernel, rfl, by decide +kernel, by decide +kernel⟩
abbrev st__law_puffed : Stmt := topS 54
abbrev nm__law_puffed : List Str := ["jar", "ties", "road", "start", "found", "turn", "at", "point", "some", "tie"]
theorem sc__law_puffed : FnScope nm__law_puffed ["jar", "ties", "road", "start"] (defScope st__law_puffed) := ⟨rfl, rfl, rfl, by decide +kernel, rfl, by decide +kernel, by decide +kernel⟩
abbrev st__law_near : Stmt := topS 55
abbrev nm__law_near : List Str := ["jar", "ties", "road", "size", "tie", "found"]
theorem sc__law_near : FnScope nm__law_near ["jar", "ties", "road"] (defScope st__law_near) := ⟨rfl, rfl, rfl, by decide +kernel, rfl, by decide +kernel, by decide +kernel⟩
abbrev st__law_surface_right : Stmt := topS 56
abbrev nm__law_surface_right : List Str := ["ties", "web", "points", "size", "told", "tie", "loose", "point"]
theorem sc__law_surface_right : FnScope nm__law_surface_right ["ties", "web"] (defScope st__law_surface_right) := ⟨rfl, rfl, rfl, by decide +kernel, rfl, by decide +kernel, by decide +kernel⟩
abbrev st__law_right : Stmt := topS 57
abbrev nm__law_right : List Str := ["jar", "ties", "web", "start", "road", "more", "due", "end", "at", "value"]
theorem sc__law_right : FnScope nm__law_right ["jar"] (defScope st__law_right) := ⟨rfl, rfl, rfl, by decide +kernel, rfl, by decide +kernel, by decide +kernel⟩
abbrev st_law : Stmt := topS 58
abbrev nm_law : List Str := ["script", "spot", "theta", "told"]
theorem sc_law : FnScope nm_law ["script"] (defScope st_law) := ⟨rfl, rfl, rfl, by decide +kernel, rfl, by decide +kernel, by decide +kernel⟩
abbrev st_Web___init__ : Stmt := inClass (topS 31) 0
abbrev nm_Web___init__ : List Str := ["self", "ties"]
theorem sc_Web___init__ : FnScope nm_Web___init__ ["self", "ties"] (defScope st_Web___init__) := ⟨rfl, rfl, rfl, by decide +kernel, rfl, by decide +kernel, by decide +kernel⟩
abbrev st_Web_ties : Stmt := inClass (topS 31) 1
abbrev nm_Web_ties : List Str := ["self"]
theorem sc_Web_ties : FnScope nm_Web_ties ["self"] (defScope st_Web_ties) := ⟨rfl, rfl, rfl, by decide +kernel, rfl, by decide +kernel, by decide +kernel⟩
abbrev st_Web_points : Stmt := inClass (topS 31) 2
abbrev nm_Web_points : List Str := ["self"]
theorem sc_Web_points : FnScope nm_Web_points ["self"] (defScope st_Web_points) := ⟨rfl, rfl, rfl, by decide +kernel, rfl, by decide +kernel, by decide +kernel⟩
abbrev st_Web_size : Stmt := inClass (topS 31) 3
abbrev nm_Web_size : List Str := ["self"]
theorem sc_Web_size : FnScope nm_Web_size ["self"] (defScope st_Web_size) := ⟨rfl, rfl, rfl, by decide +kernel, rfl, by decide +kernel, by decide +kernel⟩
abbrev st_Web_rank : Stmt := inClass (topS 31) 4
abbrev nm_Web_rank : List Str := ["self"]
theorem sc_Web_rank : FnScope nm_Web_rank ["self"] (defScope st_Web_rank) := ⟨rfl, rfl, rfl, by decide +kernel, rfl, by decide +kernel, by decide +kernel⟩
abbrev st_Web_begin : Stmt := inClass (topS 31) 5
abbrev nm_Web_begin : List Str := ["self", "tie"]
theorem sc_Web_begin : FnScope nm_Web_begin ["self", "tie"] (defScope st_Web_begin) := ⟨rfl, rfl, rfl, by decide +kernel, rfl, by decide +kernel, by decide +kernel⟩
abbrev st_Web_end : Stmt := inClass (topS 31) 6
abbrev nm_Web_end : List Str := ["self", "tie"]
theorem sc_Web_end : FnScope nm_Web_end ["self", "tie"] (defScope st_Web_end) := ⟨rfl, rfl, rfl, by decide +kernel, rfl, by decide +kernel, by decide +kernel⟩
abbrev st_Web_beginnings : Stmt := inClass (topS 31) 7
abbrev nm_Web_beginnings : List Str := ["self", "point"]
theorem sc_Web_beginnings : FnScope nm_Web_beginnings ["self", "point"] (defScope st_Web_beginnings) := ⟨rfl, rfl, rfl, by decide +kernel, rfl, by decide +kernel, by decide +kernel⟩
abbrev st_Web_loose_points : Stmt := inClass (topS 31) 8
abbrev nm_Web_loose_points : List Str := ["self", "point"]
theorem sc_Web_loose_points : FnScope nm_Web_loose_points ["self"] (defScope st_Web_loose_points) := ⟨rfl, rfl, rfl, by decide +kernel, rfl, by decide +kernel, by decide +kernel⟩
abbrev st_Web_is_road : Stmt := inClass (topS 31) 9
abbrev nm_Web_is_road : List Str := ["self", "value"]
theorem sc_Web_is_road : FnScope nm_Web_is_road ["self", "value"] (defScope st_Web_is_road) := ⟨rfl, rfl, rfl, by decide +kernel, rfl, by decide +kernel, by decide +kernel⟩
abbrev st_Web_tight : Stmt := inClass (topS 31) 10
abbrev nm_Web_tight : List Str := ["self", "road"]
theorem sc_Web_tight : FnScope nm_Web_tight ["self", "road"] (defScope st_Web_tight) := ⟨rfl, rfl, rfl, by decide +kernel, rfl, by decide +kernel, by decide +kernel⟩
abbrev st_Web_gone_back : Stmt := inClass (topS 31) 11
abbrev nm_Web_gone_back : List Str := ["self", "road"]
theorem sc_Web_gone_back : FnScope nm_Web_gone_back ["self", "road"] (defScope st_Web_gone_back) := ⟨rfl, rfl, rfl, by decide +kernel, rfl, by decide +kernel, by decide +kernel⟩
abbrev st_Web___eq__ : Stmt := inClass (topS 31) 12
abbrev nm_Web___eq__ : List Str := ["self", "other"]
theorem sc_Web___eq__ : FnScope nm_Web___eq__ ["self", "other"] (defScope st_Web___eq__) := ⟨rfl, rfl, rfl, by decide +kernel, rfl, by decide +kernel, by decide +kernel⟩
abbrev st_Web___len__ : Stmt := inClass (topS 31) 13
abbrev nm_Web___len__ : List Str := ["self"]
theorem sc_Web___len__ : FnScope nm_Web___len__ ["self"] (defScope st_Web___len__) := ⟨rfl, rfl, rfl, by decide +kernel, rfl, by decide +kernel, by decide +kernel⟩
abbrev st_Web___iter__ : Stmt := inClass (topS 31) 14
abbrev nm_Web___iter__ : List Str := ["self"]
theorem sc_Web___iter__ : FnScope nm_Web___iter__ ["self"] (defScope st_Web___iter__) := ⟨rfl, rfl, rfl, by decide +kernel, rfl, by decide +kernel, by decide +kernel⟩
abbrev st_Web___str__ : Stmt := inClass (topS 31) 15
abbrev nm_Web___str__ : List Str := ["self"]
theorem sc_Web___str__ : FnScope nm_Web___str__ ["self"] (defScope st_Web___str__) := ⟨rfl, rfl, rfl, by decide +kernel, rfl, by decide +kernel, by decide +kernel⟩
/-- what the top leaves -/
structure Txt (K : PySem.W.Frag) (mg : Str → Option Value) : Prop where
  f_reduced : ∃ (f : Addr) (fd : FuncData), Fun K "reduced" "reduced" st_reduced f fd ∧ mg "reduced" = some (.ref f) ∧ Binds K fd ["row"] []
  f_opposite : ∃ (f : Addr) (fd : FuncData), Fun K "opposite" "opposite" st_opposite f fd ∧ mg "opposite" = some (.ref f) ∧ Binds K fd ["row"] []
  f_split_core : ∃ (f : Addr) (fd : FuncData), Fun K "split_core" "split_core" st_split_core f fd ∧ mg "split_core" = some (.ref f) ∧ Binds K fd ["row"] []
  f_rotated : ∃ (f : Addr) (fd : FuncData), Fun K "rotated" "rotated" st_rotated f fd ∧ mg "rotated" = some (.ref f) ∧ Binds K fd ["row", "start"] []
  f_least_start : ∃ (f : Addr) (fd : FuncData), Fun K "least_start" "least_start" st_least_start f fd ∧ mg "least_start" = some (.ref f) ∧ Binds K fd ["row"] []
  f_ring_of : ∃ (f : Addr) (fd : FuncData), Fun K "ring_of" "ring_of" st_ring_of f fd ∧ mg "ring_of" = some (.ref f) ∧ Binds K fd ["row"] []
  f_is_integer : ∃ (f : Addr) (fd : FuncData), Fun K "is_integer" "is_integer" st_is_integer f fd ∧ mg "is_integer" = some (.ref f) ∧ Binds K fd ["value"] []
  f_is_within : ∃ (f : Addr) (fd : FuncData), Fun K "is_within" "is_within" st_is_within f fd ∧ mg "is_within" = some (.ref f) ∧ Binds K fd ["value", "least", "most"] []
  f_entries_of : ∃ (f : Addr) (fd : FuncData), Fun K "entries_of" "entries_of" st_entries_of f fd ∧ mg "entries_of" = some (.ref f) ∧ Binds K fd ["letters"] []
  f_begin_of : ∃ (f : Addr) (fd : FuncData), Fun K "begin_of" "begin_of" st_begin_of f fd ∧ mg "begin_of" = some (.ref f) ∧ Binds K fd ["ties", "tie"] []
  f_end_of : ∃ (f : Addr) (fd : FuncData), Fun K "end_of" "end_of" st_end_of f fd ∧ mg "end_of" = some (.ref f) ∧ Binds K fd ["ties", "tie"] []
  f_points_in : ∃ (f : Addr) (fd : FuncData), Fun K "points_in" "points_in" st_points_in f fd ∧ mg "points_in" = some (.ref f) ∧ Binds K fd ["ties"] []
  f_beginnings_at : ∃ (f : Addr) (fd : FuncData), Fun K "beginnings_at" "beginnings_at" st_beginnings_at f fd ∧ mg "beginnings_at" = some (.ref f) ∧ Binds K fd ["ties", "point"] []
  f_is_road_in : ∃ (f : Addr) (fd : FuncData), Fun K "is_road_in" "is_road_in" st_is_road_in f fd ∧ mg "is_road_in" = some (.ref f) ∧ Binds K fd ["ties", "value"] []
  f_is_round_in : ∃ (f : Addr) (fd : FuncData), Fun K "is_round_in" "is_round_in" st_is_round_in f fd ∧ mg "is_round_in" = some (.ref f) ∧ Binds K fd ["ties", "road"] []
  f_parts_by : ∃ (f : Addr) (fd : FuncData), Fun K "parts_by" "parts_by" st_parts_by f fd ∧ mg "parts_by" = some (.ref f) ∧ Binds K fd ["ties", "chosen"] []
  f_pieces_in : ∃ (f : Addr) (fd : FuncData), Fun K "pieces_in" "pieces_in" st_pieces_in f fd ∧ mg "pieces_in" = some (.ref f) ∧ Binds K fd ["ties", "chosen"] []
  f_rank_of_ties : ∃ (f : Addr) (fd : FuncData), Fun K "rank_of_ties" "rank_of_ties" st_rank_of_ties f fd ∧ mg "rank_of_ties" = some (.ref f) ∧ Binds K fd ["ties"] []
  f_are_ties : ∃ (f : Addr) (fd : FuncData), Fun K "are_ties" "are_ties" st_are_ties f fd ∧ mg "are_ties" = some (.ref f) ∧ Binds K fd ["value"] []
  f_check_web : ∃ (f : Addr) (fd : FuncData), Fun K "check_web" "check_web" st_check_web f fd ∧ mg "check_web" = some (.ref f) ∧ Binds K fd ["web"] []
  f_is_directed : ∃ (f : Addr) (fd : FuncData), Fun K "is_directed" "is_directed" st_is_directed f fd ∧ mg "is_directed" = some (.ref f) ∧ Binds K fd ["web", "value"] []
  f_check_directed : ∃ (f : Addr) (fd : FuncData), Fun K "check_directed" "check_directed" st_check_directed f fd ∧ mg "check_directed" = some (.ref f) ∧ Binds K fd ["web", "tie"] []
  f_check_point : ∃ (f : Addr) (fd : FuncData), Fun K "check_point" "check_point" st_check_point f fd ∧ mg "check_point" = some (.ref f) ∧ Binds K fd ["web", "point"] []
  f_check_road : ∃ (f : Addr) (fd : FuncData), Fun K "check_road" "check_road" st_check_road f fd ∧ mg "check_road" = some (.ref f) ∧ Binds K fd ["web", "road"] []
  f_tight_round : ∃ (f : Addr) (fd : FuncData), Fun K "tight_round" "tight_round" st_tight_round f fd ∧ mg "tight_round" = some (.ref f) ∧ Binds K fd ["web", "road"] []
  f__law_jar : ∃ (f : Addr) (fd : FuncData), Fun K "_law_jar" "_law_jar" st__law_jar f fd ∧ mg "_law_jar" = some (.ref f) ∧ Binds K fd ["script", "spot"] []
  f__law_pour : ∃ (f : Addr) (fd : FuncData), Fun K "_law_pour" "_law_pour" st__law_pour f fd ∧ mg "_law_pour" = some (.ref f) ∧ Binds K fd ["jar", "total"] []
  f__law_choose : ∃ (f : Addr) (fd : FuncData), Fun K "_law_choose" "_law_choose" st__law_choose f fd ∧ mg "_law_choose" = some (.ref f) ∧ Binds K fd ["jar", "items"] []
  f__law_begin : ∃ (f : Addr) (fd : FuncData), Fun K "_law_begin" "_law_begin" st__law_begin f fd ∧ mg "_law_begin" = some (.ref f) ∧ Binds K fd ["ties", "tie"] []
  f__law_end : ∃ (f : Addr) (fd : FuncData), Fun K "_law_end" "_law_end" st__law_end f fd ∧ mg "_law_end" = some (.ref f) ∧ Binds K fd ["ties", "tie"] []
  f__law_directed : ∃ (f : Addr) (fd : FuncData), Fun K "_law_directed" "_law_directed" st__law_directed f fd ∧ mg "_law_directed" = some (.ref f) ∧ Binds K fd ["ties"] []
  f__law_back : ∃ (f : Addr) (fd : FuncData), Fun K "_law_back" "_law_back" st__law_back f fd ∧ mg "_law_back" = some (.ref f) ∧ Binds K fd ["row"] []
  f__law_bare : ∃ (f : Addr) (fd : FuncData), Fun K "_law_bare" "_law_bare" st__law_bare f fd ∧ mg "_law_bare" = some (.ref f) ∧ Binds K fd ["row"] []
  f__law_ring : ∃ (f : Addr) (fd : FuncData), Fun K "_law_ring" "_law_ring" st__law_ring f fd ∧ mg "_law_ring" = some (.ref f) ∧ Binds K fd ["row"] []
  f__law_shuffled : ∃ (f : Addr) (fd : FuncData), Fun K "_law_shuffled" "_law_shuffled" st__law_shuffled f fd ∧ mg "_law_shuffled" = some (.ref f) ∧ Binds K fd ["jar", "items"] []
  f__law_web_drawn : ∃ (f : Addr) (fd : FuncData), Fun K "_law_web_drawn" "_law_web_drawn" st__law_web_drawn f fd ∧ mg "_law_web_drawn" = some (.ref f) ∧ Binds K fd ["jar", "most", "further"] []
  f__law_points : ∃ (f : Addr) (fd : FuncData), Fun K "_law_points" "_law_points" st__law_points f fd ∧ mg "_law_points" = some (.ref f) ∧ Binds K fd ["ties"] []
  f__law_beginnings : ∃ (f : Addr) (fd : FuncData), Fun K "_law_beginnings" "_law_beginnings" st__law_beginnings f fd ∧ mg "_law_beginnings" = some (.ref f) ∧ Binds K fd ["ties", "point"] []
  f__law_walk : ∃ (f : Addr) (fd : FuncData), Fun K "_law_walk" "_law_walk" st__law_walk f fd ∧ mg "_law_walk" = some (.ref f) ∧ Binds K fd ["jar", "ties", "point", "many"] []
  f__law_is_road : ∃ (f : Addr) (fd : FuncData), Fun K "_law_is_road" "_law_is_road" st__law_is_road f fd ∧ mg "_law_is_road" = some (.ref f) ∧ Binds K fd ["ties", "value"] []
  f__law_puffed : ∃ (f : Addr) (fd : FuncData), Fun K "_law_puffed" "_law_puffed" st__law_puffed f fd ∧ mg "_law_puffed" = some (.ref f) ∧ Binds K fd ["jar", "ties", "road", "start"] []
  f__law_near : ∃ (f : Addr) (fd : FuncData), Fun K "_law_near" "_law_near" st__law_near f fd ∧ mg "_law_near" = some (.ref f) ∧ Binds K fd ["jar", "ties", "road"] []
  f__law_surface_right : ∃ (f : Addr) (fd : FuncData), Fun K "_law_surface_right" "_law_surface_right" st__law_surface_right f fd ∧ mg "_law_surface_right" = some (.ref f) ∧ Binds K fd ["ties", "web"] []
  f__law_right : ∃ (f : Addr) (fd : FuncData), Fun K "_law_right" "_law_right" st__law_right f fd ∧ mg "_law_right" = some (.ref f) ∧ Binds K fd ["jar"] []
  f_Web___init__ : ∃ (f : Addr) (fd : FuncData), Fun K "__init__" "Web.__init__" st_Web___init__ f fd ∧ Mk K (cA mg "Web") f ∧ Binds K fd ["self", "ties"] []
  f_Web_ties : ∃ (f p : Addr) (fd : FuncData), Fun K "ties" "Web.ties" st_Web_ties f fd ∧ PropOf K (cA mg "Web") "ties" p f ∧ Binds K fd ["self"] []
  f_Web_points : ∃ (f p : Addr) (fd : FuncData), Fun K "points" "Web.points" st_Web_points f fd ∧ PropOf K (cA mg "Web") "points" p f ∧ Binds K fd ["self"] []
  f_Web_size : ∃ (f p : Addr) (fd : FuncData), Fun K "size" "Web.size" st_Web_size f fd ∧ PropOf K (cA mg "Web") "size" p f ∧ Binds K fd ["self"] []
  f_Web_rank : ∃ (f p : Addr) (fd : FuncData), Fun K "rank" "Web.rank" st_Web_rank f fd ∧ PropOf K (cA mg "Web") "rank" p f ∧ Binds K fd ["self"] []
  f_Web_begin : ∃ (f : Addr) (fd : FuncData), Fun K "begin" "Web.begin" st_Web_begin f fd ∧ Meth K (cA mg "Web") "begin" f ∧ Binds K fd ["self", "tie"] []
  f_Web_end : ∃ (f : Addr) (fd : FuncData), Fun K "end" "Web.end" st_Web_end f fd ∧ Meth K (cA mg "Web") "end" f ∧ Binds K fd ["self", "tie"] []
  f_Web_beginnings : ∃ (f : Addr) (fd : FuncData), Fun K "beginnings" "Web.beginnings" st_Web_beginnings f fd ∧ Meth K (cA mg "Web") "beginnings" f ∧ Binds K fd ["self", "point"] []
  f_Web_loose_points : ∃ (f : Addr) (fd : FuncData), Fun K "loose_points" "Web.loose_points" st_Web_loose_points f fd ∧ Meth K (cA mg "Web") "loose_points" f ∧ Binds K fd ["self"] []
  f_Web_is_road : ∃ (f : Addr) (fd : FuncData), Fun K "is_road" "Web.is_road" st_Web_is_road f fd ∧ Meth K (cA mg "Web") "is_road" f ∧ Binds K fd ["self", "value"] []
  f_Web_tight : ∃ (f : Addr) (fd : FuncData), Fun K "tight" "Web.tight" st_Web_tight f fd ∧ Meth K (cA mg "Web") "tight" f ∧ Binds K fd ["self", "road"] []
  f_Web_gone_back : ∃ (f : Addr) (fd : FuncData), Fun K "gone_back" "Web.gone_back" st_Web_gone_back f fd ∧ Meth K (cA mg "Web") "gone_back" f ∧ Binds K fd ["self", "road"] []
  f_Web___eq__ : ∃ (f : Addr) (fd : FuncData), Fun K "__eq__" "Web.__eq__" st_Web___eq__ f fd ∧ Own K (cA mg "Web") "__eq__" f ∧ Binds K fd ["self", "other"] []
  f_Web___len__ : ∃ (f : Addr) (fd : FuncData), Fun K "__len__" "Web.__len__" st_Web___len__ f fd ∧ Own K (cA mg "Web") "__len__" f ∧ Binds K fd ["self"] []
  f_Web___iter__ : ∃ (f : Addr) (fd : FuncData), Fun K "__iter__" "Web.__iter__" st_Web___iter__ f fd ∧ Own K (cA mg "Web") "__iter__" f ∧ Binds K fd ["self"] []
  f_Web___str__ : ∃ (f : Addr) (fd : FuncData), Fun K "__str__" "Web.__str__" st_Web___str__ f fd ∧ Own K (cA mg "Web") "__str__" f ∧ Binds K fd ["self"] []
  g_Web : mg "Web" = some (.ref (cA mg "Web"))
  cl_Web : Cls K (cA mg "Web")
  kc_Web : PySem.W.keepIn K (.ref (cA mg "Web")) = true
  na_Web__ties : NoAttr K (cA mg "Web") "_ties"
  ne_Web : OwnNe K (cA mg "Web")
  ci_Web : InstK K (cA mg "Web")
  nt_Web_tuple : PySem.W.kitOne K (.type "tuple") (.ref (cA mg "Web")) = some false
  c_MAX_TIES : ∃ t : Tok, mg "MAX_TIES" = some (.int 24 t)
  n_abs : mg "abs" = none
  n_all : mg "all" = none
  n_bool : mg "bool" = none
  n_int : mg "int" = none
  n_isinstance : mg "isinstance" = none
  n_iter : mg "iter" = none
  n_len : mg "len" = none
  n_list : mg "list" = none
  n_max : mg "max" = none
  n_min : mg "min" = none
  n_property : mg "property" = none
  n_range : mg "range" = none
  n_sorted : mg "sorted" = none
  n_str : mg "str" = none
  n_tuple : mg "tuple" = none
  n_zip : mg "zip" = none
section
variable {P : Program} {w : World} {K : PySem.W.Frag} {mg : Str → Option Value} {base : Heap}
/-- what a turn does to the pile, and its reading -/
theorem act_take {ns : List Int} {i : Nat} {e : Int} (h : ns[i]? = some e) : Fr.act (ns.take (i + 1)) [] = Fr.push e (Fr.act (ns.take i) []) := by
  rw [List.take_succ, h]
  show Fr.act (ns.take i ++ [e]) [] = _
  rw [Fr.act_app]
  rfl
def kp (ns : List Int) (i : Nat) : List V := ((Fr.act (ns.take i) []).reverse).map V.int
theorem kp_len (ns : List Int) (i : Nat) : (kp ns i).length ≤ ns.length := by
  unfold kp
  rw [List.length_map, List.length_reverse]
  have h := len_act (ns.take i) []
  rw [List.length_take] at h
  simp at h
  omega
theorem get_int {ns : List Int} {i : Nat} {x : V} (h : (ns.map V.int)[i]? = some x) : ∃ e, ns[i]? = some e ∧ x = .int e := by
  rw [List.getElem?_map] at h
  cases q : ns[i]? with
  | none => rw [q] at h; cases h
  | some e => rw [q] at h; exact ⟨e, rfl, (Option.some.inj h).symm⟩
theorem kp_end (ns : List Int) : kp ns ns.length = (Fr.red ns).map V.int := by
  unfold kp Fr.red
  rw [List.take_length]
def SqA (K : PySem.W.Frag) (H : Hp) (a : Addr) (xs : List V) : Prop := SqL K H a xs ∨ SqT K H a xs
def spReduced (K : PySem.W.Frag) : Sp := fun vs H Q _ => ∃ (a : Addr) (ns : List Int), vs = [.ref a] ∧ SqA K H a (ns.map V.int) ∧ ns.length ≤ 20000 ∧ ∀ H' p, Same H H' → SqT K H' p ((Fr.red ns).map V.int) → Q (.ref p) H'
theorem ok_reduced {f : Addr} {fd : FuncData} (F : Fun K "reduced" "reduced" st_reduced f fd) (T : Txt K mg) : FnOk P w K mg base CX0 1 f fd ["row"] (spReduced K) := by
  refine F.ok sc_reduced (fun vs H Q E h => ?_) (fun cdv A outer s H vs Q E hr h => ?_)
  · obtain ⟨a, ns, rfl, _⟩ := h
    rfl
  · obtain ⟨a, ns, rfl, h, hz, k⟩ := h
    let Pv : Addr → Nat → L2.St → Hp → Prop := fun l i σ H' => ∃ x, σ = [some (.ref a), some (.ref l), x] ∧ H' = upd H l (.lst (kp ns i))
    have zl : ∀ {j : Nat}, j ≤ ns.length → j < sizeLine := fun hj => Nat.lt_of_le_of_lt (Nat.le_trans hj hz) (by decide)
    have last : ∀ (l : Addr) (σ : L2.St) (H' : Hp), H l = none → Pv l (ns.map V.int).length σ H' → (tRet (tCB (rTupOf K) (tCons (tVar 1) tNil))) { nx := fun _ H' => Q .non H', rt := Q } σ H' := fun l σ H' hl ⟨x, es, eh⟩ => by
      subst es eh
      refine ⟨.ref l, rfl, l, _, rfl, .inl ⟨lst_of upd_same, fun q hq => k _ _ (Same.trans (new_same hl) (new_same hq)) (tup_of ?_)⟩⟩
      rw [upd_same, List.length_map, kp_end]
    rcases h with h | h
    · refine ⟨_, (pss_cons (ps_set (i := 1) sc_reduced.nd rfl (Or.inl rfl) (pe_lst pa_nil)) (pss_cons (ps_for PassesOwn.never rfl (kpi_list (K := K) (pv 0)) (pg_name (i := 2) sc_reduced.nd rfl (Or.inl rfl)) (pss_one (ps_if (PW.pt (pw_and (kpt_truth (K := K) (pv 1) (by intro _; rfl)) (pw_and1 (pt_cmpR op_eq (pe_ix (kix_list (K := K)) (pv 1) (pe_un un_neg pe_int) (fun _ _ => rfl)) (pe_un un_neg (pv 2)) (nomark _))))) (pss_one (ps_expr (pe_bm0 PySem.F.plainAttrs_list PySem.F.slot_list_pop PySem.F.type_list_pop mt_pop (pv 1)))) (pss_one (ps_expr (pe_bm PySem.F.plainAttrs_list PySem.F.slot_list_append PySem.F.type_list_append mt_append (pv 1) (pa_cons (pv 2) pa_nil))))))) (pss_one (ps_ret (pe_callTy (kcall_tuple (K := K)) (by rfl) T.n_tuple bo_tuple (pa_cons (pv 1) pa_nil)))))), ?_⟩
      refine ⟨Nat.zero_le _, fun l hl => ⟨.ref a, rfl, a, rfl, ⟨_, (Rs.same (S := none) True.intro (new_same hl)).lst (fun q => nomatch q) h⟩, for_list (K := K) (a := a) (xs := ns.map V.int) (Pv l) ⟨none, rfl, rfl⟩ (fun i σ H' _ p => ?_) (fun i x σ H' hx p => ?_) fun σ H' p => last l σ H' hl p⟩⟩
      · obtain ⟨x, _, rfl⟩ := p
        exact (Rs.same (S := none) True.intro (new_same hl)).lst (fun q => nomatch q) h
      · obtain ⟨y, rfl, rfl⟩ := p
        obtain ⟨e, he, rfl⟩ := get_int hx
        have at1 := act_take he
        cases q : Fr.act (ns.take i) [] with
        | nil =>
          have ek : kp ns i = [] := by unfold kp; rw [q]; rfl
          have ek1 : kp ns (i + 1) = [.int e] := by unfold kp; rw [at1, q]; rfl
          refine ⟨.ref l, rfl, false, .inl ⟨_, lst_of upd_same, by rw [ek]; rfl⟩, ?_⟩
          refine ⟨.ref l, rfl, .inl ⟨rfl, _, SqL.of upd_same⟩, .int e, rfl, l, _, _, rfl, rfl, upd_same, zl (kp_len ns i), some (.int e), rfl, ?_⟩
          rw [upd_upd, ek, ek1]
          rfl
        | cons y1 t =>
          have ek : kp ns i = (t.reverse.map V.int) ++ [.int y1] := by unfold kp; rw [q, List.reverse_cons, List.map_append]; rfl
          refine ⟨.ref l, rfl, true, .inl ⟨_, lst_of upd_same, by rw [ek]; simp⟩, ?_⟩
          refine ⟨.ref l, rfl, 1, rfl, l, _, _, .int y1, rfl, rfl, lst_of upd_same, by rw [ek]; exact atI_last _ _, .int e, rfl, e, rfl, rfl, _, rfl, ?_⟩
          refine ite2 (fun h1 => ?_) fun h1 => ?_
          · have h1 : y1 = -e := V.int.inj (of_decide_eq_true h1)
            have ek1 : kp ns (i + 1) = t.reverse.map V.int := by unfold kp; rw [at1, q, Fr.push_eq h1]
            refine ⟨.ref l, rfl, .inl ⟨rfl, _, SqL.of upd_same⟩, l, _, .int y1, rfl, rfl, upd_same, by rw [ek]; simp, some (.int e), rfl, ?_⟩
            rw [upd_upd, ek, ek1, List.dropLast_concat]
          · have h1 : ¬ y1 = -e := fun z => h1 (decide_eq_true (congrArg V.int z))
            have ek1 : kp ns (i + 1) = kp ns i ++ [.int e] := by unfold kp; rw [at1, q, Fr.push_on h1, List.reverse_cons, List.map_append]; rfl
            refine ⟨.ref l, rfl, .inl ⟨rfl, _, SqL.of upd_same⟩, .int e, rfl, l, _, _, rfl, rfl, upd_same, zl (kp_len ns i), some (.int e), rfl, ?_⟩
            rw [upd_upd, ek1]
    · refine ⟨_, (pss_cons (ps_set (i := 1) sc_reduced.nd rfl (Or.inl rfl) (pe_lst pa_nil)) (pss_cons (ps_for PassesOwn.never rfl (kpi_tup (K := K) (pv 0)) (pg_name (i := 2) sc_reduced.nd rfl (Or.inl rfl)) (pss_one (ps_if (PW.pt (pw_and (kpt_truth (K := K) (pv 1) (by intro _; rfl)) (pw_and1 (pt_cmpR op_eq (pe_ix (kix_list (K := K)) (pv 1) (pe_un un_neg pe_int) (fun _ _ => rfl)) (pe_un un_neg (pv 2)) (nomark _))))) (pss_one (ps_expr (pe_bm0 PySem.F.plainAttrs_list PySem.F.slot_list_pop PySem.F.type_list_pop mt_pop (pv 1)))) (pss_one (ps_expr (pe_bm PySem.F.plainAttrs_list PySem.F.slot_list_append PySem.F.type_list_append mt_append (pv 1) (pa_cons (pv 2) pa_nil))))))) (pss_one (ps_ret (pe_callTy (kcall_tuple (K := K)) (by rfl) T.n_tuple bo_tuple (pa_cons (pv 1) pa_nil)))))), ?_⟩
      refine ⟨Nat.zero_le _, fun l hl => ⟨.ref a, rfl, a, rfl, ⟨_, same_tup (new_same hl) h⟩, for_tup (K := K) (a := a) (xs := ns.map V.int) (Pv l) ⟨none, rfl, rfl⟩ (fun i σ H' _ p => ?_) (fun i x σ H' hx p => ?_) fun σ H' p => last l σ H' hl p⟩⟩
      · obtain ⟨x, _, rfl⟩ := p
        exact same_tup (new_same hl) h
      · obtain ⟨y, rfl, rfl⟩ := p
        obtain ⟨e, he, rfl⟩ := get_int hx
        have at1 := act_take he
        cases q : Fr.act (ns.take i) [] with
        | nil =>
          have ek : kp ns i = [] := by unfold kp; rw [q]; rfl
          have ek1 : kp ns (i + 1) = [.int e] := by unfold kp; rw [at1, q]; rfl
          refine ⟨.ref l, rfl, false, .inl ⟨_, lst_of upd_same, by rw [ek]; rfl⟩, ?_⟩
          refine ⟨.ref l, rfl, .inl ⟨rfl, _, SqL.of upd_same⟩, .int e, rfl, l, _, _, rfl, rfl, upd_same, zl (kp_len ns i), some (.int e), rfl, ?_⟩
          rw [upd_upd, ek, ek1]
          rfl
        | cons y1 t =>
          have ek : kp ns i = (t.reverse.map V.int) ++ [.int y1] := by unfold kp; rw [q, List.reverse_cons, List.map_append]; rfl
          refine ⟨.ref l, rfl, true, .inl ⟨_, lst_of upd_same, by rw [ek]; simp⟩, ?_⟩
          refine ⟨.ref l, rfl, 1, rfl, l, _, _, .int y1, rfl, rfl, lst_of upd_same, by rw [ek]; exact atI_last _ _, .int e, rfl, e, rfl, rfl, _, rfl, ?_⟩
          refine ite2 (fun h1 => ?_) fun h1 => ?_
          · have h1 : y1 = -e := V.int.inj (of_decide_eq_true h1)
            have ek1 : kp ns (i + 1) = t.reverse.map V.int := by unfold kp; rw [at1, q, Fr.push_eq h1]
            refine ⟨.ref l, rfl, .inl ⟨rfl, _, SqL.of upd_same⟩, l, _, .int y1, rfl, rfl, upd_same, by rw [ek]; simp, some (.int e), rfl, ?_⟩
            rw [upd_upd, ek, ek1, List.dropLast_concat]
          · have h1 : ¬ y1 = -e := fun z => h1 (decide_eq_true (congrArg V.int z))
            have ek1 : kp ns (i + 1) = kp ns i ++ [.int e] := by unfold kp; rw [at1, q, Fr.push_on h1, List.reverse_cons, List.map_append]; rfl
            refine ⟨.ref l, rfl, .inl ⟨rfl, _, SqL.of upd_same⟩, .int e, rfl, l, _, _, rfl, rfl, upd_same, zl (kp_len ns i), some (.int e), rfl, ?_⟩
            rw [upd_upd, ek1]
theorem cl_reduced (T : Txt K mg) : Cl P w K mg base 1 "reduced" (spReduced K) := by
  obtain ⟨f, fd, F, hm, hb⟩ := T.f_reduced
  exact cl_of (ok_reduced F T) hm F.kp hb
def spOpp (K : PySem.W.Frag) : Sp := fun vs H Q _ => ∃ (a : Addr) (ns : List Int), vs = [.ref a] ∧ SqT K H a (ns.map V.int) ∧ ns.length ≤ 20000 ∧ ∀ H' p, Same H H' → SqT K H' p ((Fr.opp ns).map V.int) → Q (.ref p) H'
theorem opp_take (ns : List Int) (i : Nat) (e : Int) (h : ns.reverse[i]? = some e) : (ns.reverse.take (i + 1)).map (fun x => -x) = (ns.reverse.take i).map (fun x => -x) ++ [-e] := by
  rw [List.take_succ, h, List.map_append]
  rfl
theorem opp_all (ns : List Int) : (ns.reverse.take ns.length).map (fun x => -x) = Fr.opp ns := by
  rw [List.take_of_length_le (by rw [List.length_reverse]; exact Nat.le_refl _), List.map_reverse]
  rfl
theorem ok_opposite {f : Addr} {fd : FuncData} (F : Fun K "opposite" "opposite" st_opposite f fd) (T : Txt K mg) : FnOk P w K mg base CX0 1 f fd ["row"] (spOpp K) := by
  refine F.ok sc_opposite (fun vs H Q E h => ?_) (fun cdv A outer s H vs Q E hr h => ?_)
  · obtain ⟨a, ns, rfl, _⟩ := h
    rfl
  · obtain ⟨a, ns, rfl, h, hz, k⟩ := h
    refine ⟨_, (pss_one (ps_ret (pe_callTy (kcall_tuple (K := K)) (by rfl) T.n_tuple bo_tuple (pa_cons (pe_lc (own := [("entry", 1)]) rfl sc_opposite.nd (kpi_tup (K := K) (kpe_revT (K := K) (pv 0))) (blkOk_by (N := nm_opposite) (sc := defScope st_opposite) (by decide +kernel)) (fun _ _ _ _ _ => (pg_name (i := 1) sc_opposite.nd rfl (by first | exact Or.inl rfl | exact Or.inr rfl))) (fun _ _ _ _ _ => pts_nil) (fun _ _ _ _ _ => (pe_un un_neg (pv 1)))) pa_nil)))), ?_⟩
    refine ⟨.ref a, rfl, a, _, rfl, h, fun p hp => ⟨p, rfl, ⟨_, tup_of upd_same⟩, fun D hD => lc_tup (K := K) (a := p) (xs := (ns.map V.int).reverse) (fun i H' => Same (upd H p (.tup (ns.map V.int).reverse)) H' ∧ H' D = some (.lst (((ns.reverse.take i).map fun x => -x).map V.int))) ⟨new_same hD, upd_same⟩ (fun i H' _ q => same_tup q.1 (tup_of upd_same)) (fun i x H' hx q => ?_) fun H' q => ?_⟩⟩
    · rw [← List.map_reverse] at hx
      have hi : i < ns.length := by
        have := (List.getElem?_eq_some_iff.mp hx).1
        rw [List.length_map, List.length_reverse] at this
        exact this
      rw [List.getElem?_map] at hx
      cases z : ns.reverse[i]? with
      | none => rw [z] at hx; cases hx
      | some e =>
        rw [z] at hx
        cases hx
        refine ⟨rfl, .int e, rfl, e, rfl, _, q.2, Nat.lt_of_le_of_lt (Nat.le_trans (by rw [List.length_map, List.length_map, List.length_take]; omega) hz) (by decide), same_mut q.1 hD, ?_⟩
        rw [upd_same, opp_take ns i e z, List.map_append]
        rfl
    · refine ⟨D, _, rfl, .inl ⟨lst_of q.2, fun l hl => k _ _ (Same.trans (Same.trans (new_same hp) q.1) (new_same hl)) (tup_of ?_)⟩⟩
      rw [upd_same, List.length_reverse, List.length_map, opp_all]
theorem cl_opposite (T : Txt K mg) : Cl P w K mg base 1 "opposite" (spOpp K) := by
  obtain ⟨f, fd, F, hm, hb⟩ := T.f_opposite
  exact cl_of (ok_opposite F T) hm F.kp hb
theorem at_int {ns : List Int} {z : Int} {j : Nat} (e : z = (j : Int)) (h : j < ns.length) : atI (ns.map V.int) z = some (V.int (ns.getD j 0)) := by
  refine at_of e ?_
  rw [List.getElem?_map, List.getElem?_eq_getElem h, List.getD_eq_getElem?_getD, List.getElem?_eq_getElem h]
  rfl
def Sack3 (H : Hp) (S : Addr) : Prop := ∃ x y z : Int, H S = some (.lst [.int x, .int y, .int z])
def spJar (K : PySem.W.Frag) : Sp := fun vs H Q _ => ∃ (a : Addr) (ns : List Int) (k : Int), vs = [.ref a, .int k] ∧ SqL K H a (ns.map V.int) ∧ 0 ≤ k ∧ ∀ H' S, Same H H' → H S = none → Sack3 H' S → Q (.ref S) H'
theorem ok__law_jar {f : Addr} {fd : FuncData} (F : Fun K "_law_jar" "_law_jar" st__law_jar f fd) (T : Txt K mg) : FnOk P w K mg base CX0 1 f fd ["script", "spot"] (spJar K) := by
  refine F.ok sc__law_jar (fun vs H Q E h => ?_) (fun cdv A outer s H vs Q E hr h => ?_)
  · obtain ⟨a, ns, m, rfl, _⟩ := h
    rfl
  · obtain ⟨a, ns, m, rfl, h, m0, k⟩ := h
    refine ⟨_, (pss_cons (ps_set (i := 2) sc__law_jar.nd rfl (Or.inl rfl) (pe_ifExp (pt_cmpR op_lt (pv 1) (pe_callB (kcall_len (K := K)) (by rfl) T.n_len bo_len (pa_cons (pv 0) pa_nil)) (nomark _)) (pe_callTy call_int1 (by rfl) T.n_int bo_int (pa_cons (pe_ix (kix_list (K := K)) (pv 0) (pv 1) (fun _ _ => rfl)) pa_nil)) (pe_op op_add (pe_op op_mul pe_int (pv 1)) pe_int))) (pss_cons (ps_set (i := 3) sc__law_jar.nd rfl (Or.inl rfl) (pe_op op_mod (pe_callTy call_int1 (by rfl) T.n_int bo_int (pa_cons (pe_callB call_abs (by rfl) T.n_abs bo_abs (pa_cons (pv 2) pa_nil)) pa_nil)) (pe_op op_powG (pe_op op_powG pe_int pe_int) pe_int))) (pss_cons (ps_set (i := 4) sc__law_jar.nd rfl (Or.inl rfl) (pe_op op_add (pe_op op_add (pe_op op_add (pe_op op_mul (pe_op op_mod (pv 3) pe_int) pe_int) (pe_op op_mul pe_int (pv 1))) (pe_op op_mul pe_int (pe_callTy call_int1 (by rfl) T.n_int bo_int (pa_cons (pe_cmpR op_lt (pv 2) pe_int (nomark _)) pa_nil)))) pe_int)) (pss_one (ps_ret (pe_lst (pa_cons (pe_callB (call_max2 rfl) (by rfl) T.n_max bo_max (pa_cons pe_int (pa_cons (pe_op op_sub (pv 3) (pe_op op_powG pe_int pe_int)) pa_nil))) (pa_cons (pe_op op_mod (pv 4) pe_int) (pa_cons pe_int pa_nil))))))))), ?_⟩
    refine ⟨.int m, rfl, .ref a, rfl, a, _, rfl, .inl h, _, _, rfl, rfl, _, rfl, ite2 (fun h1 => ?_) fun h1 => ?_⟩
    · have h1 : m < ((ns.map V.int).length : Nat) := of_decide_eq_true h1
      rw [List.length_map] at h1
      refine ⟨.ref a, rfl, .int m, rfl, a, _, _, _, rfl, rfl, h, at_int (j := m.toNat) (by omega) (by omega), .inl ⟨_, rfl, ?_⟩⟩
      generalize ns.getD m.toNat 0 = cell
      refine ⟨.int cell, rfl, cell, rfl, .inl ⟨_, rfl, _, _, rfl, rfl, ⟨by decide, by decide +kernel⟩, _, _, rfl, rfl, ⟨by decide, by decide +kernel⟩, _, _, rfl, rfl, (by show (0 : Int) < ((10 : Int) ^ (56 : Int).toNat) ^ (8 : Int).toNat; decide +kernel), ?_⟩⟩
      refine ⟨_, rfl, _, _, rfl, rfl, (by show (0 : Int) < 2305843009213693921; decide), _, _, rfl, rfl, .inr ⟨by decide, by decide⟩, .int m, rfl, _, _, rfl, rfl, .inl ⟨by decide, by decide⟩, _, _, rfl, rfl, .int cell, rfl, _, _, rfl, rfl, .inr ⟨_, rfl, _, _, rfl, rfl, .inl ⟨by decide, by decide⟩, _, _, rfl, rfl, _, _, rfl, rfl, ?_⟩⟩
      refine ⟨_, rfl, _, _, rfl, rfl, ⟨by decide, by decide +kernel⟩, _, _, rfl, rfl, _, _, rfl, _, rfl, _, _, rfl, rfl, (by show (0 : Int) < 2305843009213693951; decide), ?_⟩
      refine ⟨by show 3 ≤ sizeLine; decide, fun S hS => k _ _ (new_same hS) hS ⟨_, _, _, upd_same⟩⟩
    · refine ⟨.int m, rfl, _, _, rfl, rfl, .inl ⟨by decide, by decide⟩, _, _, rfl, rfl, ?_⟩
      refine ⟨_, rfl, _, rfl, .inl ⟨_, rfl, _, _, rfl, rfl, ⟨by decide, by decide +kernel⟩, _, _, rfl, rfl, ⟨by decide, by decide +kernel⟩, _, _, rfl, rfl, (by show (0 : Int) < ((10 : Int) ^ (56 : Int).toNat) ^ (8 : Int).toNat; decide +kernel), ?_⟩⟩
      refine ⟨_, rfl, _, _, rfl, rfl, (by show (0 : Int) < 2305843009213693921; decide), _, _, rfl, rfl, .inr ⟨by decide, by decide⟩, .int m, rfl, _, _, rfl, rfl, .inl ⟨by decide, by decide⟩, _, _, rfl, rfl, _, rfl, _, _, rfl, rfl, .inr ⟨_, rfl, _, _, rfl, rfl, .inl ⟨by decide, by decide⟩, _, _, rfl, rfl, _, _, rfl, rfl, ?_⟩⟩
      refine ⟨_, rfl, _, _, rfl, rfl, ⟨by decide, by decide +kernel⟩, _, _, rfl, rfl, _, _, rfl, _, rfl, _, _, rfl, rfl, (by show (0 : Int) < 2305843009213693951; decide), ?_⟩
      refine ⟨by show 3 ≤ sizeLine; decide, fun S hS => k _ _ (new_same hS) hS ⟨_, _, _, upd_same⟩⟩
theorem cl__law_jar (T : Txt K mg) : Cl P w K mg base 1 "_law_jar" (spJar K) := by
  obtain ⟨f, fd, F, hm, hb⟩ := T.f__law_jar
  exact cl_of (ok__law_jar F T) hm F.kp hb
def spDrawn : Sp := fun vs H Q _ => ∃ (S : Addr) (t : Int), vs = [.ref S, .int t] ∧ Sk H (some S) ∧ 0 < t ∧ t < 10 ^ 60 ∧ ∀ H' (r : Int), Rs (some S) H H' → 0 ≤ r → r < t → Q (.int r) H'
theorem rs_put {H H1 : Hp} {S : Addr} {x y z : Int} (r : Rs (some S) H H1) : Rs (some S) H (upd H1 S (.lst [.int x, .int y, .int z])) := ⟨r.s0, ⟨x, y, z, upd_same⟩, fun a o n e => by
  rw [upd_ne (fun q => n (by rw [q]))]
  exact r.keep a o n e⟩
theorem ok__law_pour {f : Addr} {fd : FuncData} (F : Fun K "_law_pour" "_law_pour" st__law_pour f fd) (T : Txt K mg) : FnOk P w K mg base CX0 1 f fd ["jar", "total"] spDrawn := by
  refine F.ok sc__law_pour (fun vs H Q E h => ?_) (fun cdv A outer s H vs Q E hr h => ?_)
  · obtain ⟨S, t, rfl, _⟩ := h
    rfl
  · obtain ⟨S, t, rfl, hS, t0, t1, k⟩ := h
    have r0 : Rs (some S) H H := .of hS
    obtain ⟨a, b, c, e⟩ := hS
    have md : ∀ i : Int, 0 ≤ i % t ∧ i % t < t := fun i => ⟨Int.emod_nonneg _ (by omega), Int.emod_lt_of_pos _ t0⟩
    refine ⟨_, (pss_cons (ps_if (pt_cmpR op_gt (pe_ix (kix_list (K := K)) (pv 0) pe_int (fun _ _ => rfl)) pe_int (nomark _)) (pss_cons (ps_set (i := 2) sc__law_pour.nd rfl (Or.inl rfl) (pe_op op_mod (pe_callTy call_int1 (by rfl) T.n_int bo_int (pa_cons (pe_ix (kix_list (K := K)) (pv 0) pe_int (fun _ _ => rfl)) pa_nil)) (pv 1))) (pss_cons (ps_asg (pe_op op_fdivW (pe_ix (kix_list (K := K)) (pv 0) pe_int (fun _ _ => rfl)) (pv 1)) (pg_sub (pv 0) pe_int set_list)) (pss_one (ps_ret (pv 2))))) pss_nil) (pss_cons (ps_asg (pe_op op_add (pe_ix (kix_list (K := K)) (pv 0) pe_int (fun _ _ => rfl)) pe_int) (pg_sub (pv 0) pe_int set_list)) (pss_cons (ps_set (i := 3) sc__law_pour.nd rfl (Or.inl rfl) (pe_op op_mod (pe_callTy call_int1 (by rfl) T.n_int bo_int (pa_cons (pe_op op_add (pe_ix (kix_list (K := K)) (pv 0) pe_int (fun _ _ => rfl)) (pe_op op_mul pe_int (pe_ix (kix_list (K := K)) (pv 0) pe_int (fun _ _ => rfl)))) pa_nil)) pe_int)) (pss_cons (ps_set (i := 4) sc__law_pour.nd rfl (Or.inl rfl) (pe_op op_add (pe_op op_add (pe_op op_mul (pe_op op_mod (pe_callTy call_int1 (by rfl) T.n_int bo_int (pa_cons (pe_op op_mul (pv 3) (pv 3)) pa_nil)) pe_int) pe_int) (pv 3)) (pe_op op_mul pe_int (pe_ix (kix_list (K := K)) (pv 0) pe_int (fun _ _ => rfl))))) (pss_one (ps_ret (pe_op op_mod (pe_callTy call_int1 (by rfl) T.n_int bo_int (pa_cons (pe_op op_fdivW (pv 4) pe_int) pa_nil)) (pv 1)))))))), ?_⟩
    refine ⟨.ref S, rfl, S, _, 0, .int a, rfl, rfl, lst_of e, rfl, _, _, rfl, rfl, _, rfl, ite2 (fun h1 => ?_) fun h1 => ?_⟩
    · refine ⟨.ref S, rfl, S, _, 0, .int a, rfl, rfl, lst_of e, rfl, .inl ⟨a, rfl, .int t, rfl, _, _, rfl, rfl, t0, ?_⟩⟩
      refine ⟨.ref S, rfl, S, _, 0, .int a, rfl, rfl, lst_of e, rfl, .int t, rfl, _, _, rfl, rfl, wide_div (b := 200) t0 (by omega) (by decide) (by decide), ?_⟩
      refine ⟨.ref S, rfl, S, _, 0, 0, rfl, rfl, e, rfl, ?_⟩
      exact ⟨.int (a % t), rfl, k _ _ (rs_put r0) (md a).1 (md a).2⟩
    · refine ⟨.ref S, rfl, S, _, 2, .int c, rfl, rfl, lst_of e, rfl, _, _, rfl, rfl, .ref S, rfl, S, _, 2, 2, rfl, rfl, e, rfl, ?_⟩
      refine ⟨.ref S, rfl, S, _, 1, .int b, rfl, rfl, lst_of upd_same, rfl, .ref S, rfl, S, _, 2, .int (c + 1), rfl, rfl, lst_of upd_same, rfl, _, _, rfl, rfl, .inl ⟨by decide, by decide⟩, _, _, rfl, rfl, .inl ⟨_, rfl, _, _, rfl, rfl, (by show (0 : Int) < 2305843009213693951; decide), ?_⟩⟩
      have o1 : ∀ i : Int, 0 ≤ i % 2305843009213693951 ∧ i % 2305843009213693951 < 2305843009213693951 := fun i => ⟨Int.emod_nonneg _ (by omega), Int.emod_lt_of_pos _ (by omega)⟩
      have cm : ∀ i j : Int, CMul (i % 2305843009213693951) j := fun i j => .inl ⟨by have := o1 i; omega, by have := o1 i; omega⟩
      refine ⟨_, rfl, _, rfl, _, _, rfl, rfl, cm _ _, .inl ⟨_, rfl, _, _, rfl, rfl, (by show (0 : Int) < 2305843009213693907; decide), _, _, rfl, rfl, .inr ⟨by decide, by decide⟩, _, rfl, _, _, rfl, rfl, .ref S, rfl, S, _, 2, .int (c + 1), rfl, rfl, lst_of upd_same, rfl, _, _, rfl, rfl, .inl ⟨by decide, by decide⟩, _, _, rfl, rfl, ?_⟩⟩
      refine ⟨_, rfl, _, _, rfl, rfl, ⟨by decide, by decide +kernel⟩, .inl ⟨_, rfl, .int t, rfl, _, _, rfl, rfl, t0, ?_⟩⟩
      exact k _ _ (rs_put r0) (md _).1 (md _).2
theorem cl__law_pour (T : Txt K mg) : Cl P w K mg base 1 "_law_pour" spDrawn := by
  obtain ⟨f, fd, F, hm, hb⟩ := T.f__law_pour
  exact cl_of (ok__law_pour F T) hm F.kp hb
def spLiked (K : PySem.W.Frag) : Sp := fun vs H Q _ => ∃ (S l : Addr) (xs : List V), vs = [.ref S, .ref l] ∧ Sk H (some S) ∧ S ≠ l ∧ SqL K H l xs ∧ xs ≠ [] ∧ xs.length ≤ 100000 ∧ ∀ H' (j : Nat) v, Rs (some S) H H' → xs[j]? = some v → Q v H'
theorem ok__law_choose {f : Addr} {fd : FuncData} (F : Fun K "_law_choose" "_law_choose" st__law_choose f fd) (T : Txt K mg) : FnOk P w K mg base CX0 2 f fd ["jar", "items"] (spLiked K) := by
  have c__law_pour : Cl P w K mg base 1 "_law_pour" spDrawn := cl__law_pour T
  refine F.ok sc__law_choose (fun vs H Q E h => ?_) (fun cdv A outer s H vs Q E hr h => ?_)
  · obtain ⟨S, l, xs, rfl, _⟩ := h
    rfl
  · obtain ⟨S, l, xs, rfl, hS, hn, hl, he, hz, k⟩ := h
    have hp : 0 < xs.length := List.length_pos_iff.mpr he
    refine ⟨_, (pss_one (ps_ret (pe_ix (kix_list (K := K)) (pv 1) (pe_f c__law_pour hr (by decide) rfl (pa_cons (pv 0) (pa_cons (pe_callB (kcall_len (K := K)) (by rfl) T.n_len bo_len (pa_cons (pv 1) pa_nil)) pa_nil))) (fun _ _ => rfl)))), ?_⟩
    refine ⟨.ref l, rfl, .ref S, rfl, .ref l, rfl, l, xs, rfl, .inl hl, S, _, rfl, hS, by omega, by omega, fun H1 r r1 a0 a1 => ?_⟩
    have hl1 : SqL K H1 l xs := r1.lst (fun q => hn (Option.some.inj q)) hl
    obtain ⟨j, rfl⟩ : ∃ j : Nat, r = (j : Int) := ⟨r.toNat, by omega⟩
    have hj : j < xs.length := by omega
    exact ⟨l, xs, _, _, rfl, rfl, hl1, atI_nat (List.getElem?_eq_getElem hj), k _ j _ r1 (List.getElem?_eq_getElem hj)⟩
theorem cl__law_choose (T : Txt K mg) : Cl P w K mg base 2 "_law_choose" (spLiked K) := by
  obtain ⟨f, fd, F, hm, hb⟩ := T.f__law_choose
  exact cl_of (ok__law_choose F T) hm F.kp hb
def spLBare (K : PySem.W.Frag) : Sp := fun vs H Q _ => ∃ (a : Addr) (ns : List Int), vs = [.ref a] ∧ SqA K H a (ns.map V.int) ∧ ns.length ≤ 20000 ∧ ∀ H' p, Same H H' → SqT K H' p ((Fr.red ns).map V.int) → Q (.ref p) H'
theorem ok__law_bare {f : Addr} {fd : FuncData} (F : Fun K "_law_bare" "_law_bare" st__law_bare f fd) (T : Txt K mg) : FnOk P w K mg base CX0 1 f fd ["row"] (spLBare K) := by
  refine F.ok sc__law_bare (fun vs H Q E h => ?_) (fun cdv A outer s H vs Q E hr h => ?_)
  · obtain ⟨a, ns, rfl, _⟩ := h
    rfl
  · obtain ⟨a, ns, rfl, h, hz, k⟩ := h
    let Pv : Addr → Nat → L2.St → Hp → Prop := fun l i σ H' => H l = none ∧ Same H H' ∧ H' l = some (.lst (kp ns i)) ∧ ∃ x, σ = [some (.ref a), some (.ref l), x]
    have zl : ∀ {j : Nat}, j ≤ ns.length → j < sizeLine := fun hj => Nat.lt_of_le_of_lt (Nat.le_trans hj hz) (by decide)
    have last : ∀ (l : Addr) (σ : L2.St) (H' : Hp), Pv l (ns.map V.int).length σ H' → (tRet (tCB (rTupOf K) (tCons (tVar 1) tNil))) { nx := fun _ H' => Q .non H', rt := Q } σ H' := fun l σ H' ⟨hl, s1, d1, x, es⟩ => by
      subst es
      refine ⟨.ref l, rfl, l, _, rfl, .inl ⟨lst_of d1, fun q hq => k _ _ (Same.trans s1 (new_same hq)) (tup_of ?_)⟩⟩
      rw [upd_same, List.length_map, kp_end]
    rcases h with h | h
    · refine ⟨_, (pss_cons (ps_set (i := 1) sc__law_bare.nd rfl (Or.inl rfl) (pe_lst pa_nil)) (pss_cons (ps_for PassesOwn.never rfl (kpi_list (K := K) (pv 0)) (pg_name (i := 2) sc__law_bare.nd rfl (Or.inl rfl)) (pss_one (ps_if (PW.pt (pw_and (pt_cmpR (kop_neD (K := K) hr.units) (pv 1) (pe_lst pa_nil) (nomark _)) (pw_and1 (pt_cmpR op_eq (pe_ix (kix_list (K := K)) (pv 1) (pe_un un_neg pe_int) (fun _ _ => rfl)) (pe_op op_sub pe_int (pv 2)) (nomark _))))) (pss_one (ps_expr (pe_bm0 PySem.F.plainAttrs_list PySem.F.slot_list_pop PySem.F.type_list_pop mt_pop (pv 1)))) (pss_one (ps_expr (pe_bm PySem.F.plainAttrs_list PySem.F.slot_list_append PySem.F.type_list_append mt_append (pv 1) (pa_cons (pv 2) pa_nil))))))) (pss_one (ps_ret (pe_callTy (kcall_tuple (K := K)) (by rfl) T.n_tuple bo_tuple (pa_cons (pv 1) pa_nil)))))), ?_⟩
      refine ⟨Nat.zero_le _, fun l hl => ⟨.ref a, rfl, a, rfl, ⟨_, (Rs.same (S := none) True.intro (new_same hl)).lst (fun q => nomatch q) h⟩, for_list (K := K) (a := a) (xs := ns.map V.int) (Pv l) ⟨hl, new_same hl, upd_same, none, rfl⟩ (fun i σ H' _ p => (Rs.same (S := none) True.intro p.2.1).lst (fun q => nomatch q) h) (fun i x σ H' hx p => ?_) fun σ H' p => last l σ H' p⟩⟩
      obtain ⟨_, s1, d1, y, rfl⟩ := p
      obtain ⟨e, he, rfl⟩ := get_int hx
      have at1 := act_take he
      have hlt : (kp ns i).length < sizeLine := zl (kp_len ns i)
      refine ⟨.ref l, rfl, Nat.zero_le _, fun z hz0 => ?_⟩
      have nz : l ≠ z := fun q => by rw [q, hz0] at d1; cases d1
      have s2 := Same.trans s1 (new_same (o := .lst []) hz0)
      have d2 : upd H' z (.lst []) l = some (.lst (kp ns i)) := by rw [upd_ne nz]; exact d1
      have ez : upd H' z (.lst []) z = some (.lst (([] : List Int).map V.int)) := upd_same
      generalize upd H' z (.lst []) = H2 at s2 d2 ez
      refine ne_list (lst_of d2) (lst_of ez) ⟨_, rfl, ?_⟩
      cases q : Fr.act (ns.take i) [] with
      | nil =>
        have ek : kp ns i = [] := by unfold kp; rw [q]; rfl
        have ek1 : kp ns (i + 1) = [.int e] := by unfold kp; rw [at1, q]; rfl
        refine ⟨.ref l, rfl, .inl ⟨rfl, _, SqL.of d2⟩, .int e, rfl, l, _, _, rfl, rfl, d2, hlt, hl, same_mut s2 hl, ?_, some (.int e), rfl⟩
        rw [upd_same, ek, ek1]
        rfl
      | cons y1 t =>
        have ek : kp ns i = (t.reverse.map V.int) ++ [.int y1] := by unfold kp; rw [q, List.reverse_cons, List.map_append]; rfl
        have en : (!decide ((y1 :: t).reverse = [])) = true := by simp
        show if (!decide ((y1 :: t).reverse = [])) = true then _ else _
        rw [if_pos en]
        refine ⟨.ref l, rfl, 1, rfl, l, _, _, .int y1, rfl, rfl, lst_of d2, by rw [ek]; exact atI_last _ _, .int e, rfl, _, _, rfl, rfl, rfl, _, rfl, ?_⟩
        refine ite2 (fun h1 => ?_) fun h1 => ?_
        · have h1 : y1 = -e := by have := V.int.inj (of_decide_eq_true h1); omega
          have ek1 : kp ns (i + 1) = t.reverse.map V.int := by unfold kp; rw [at1, q, Fr.push_eq h1]
          refine ⟨.ref l, rfl, .inl ⟨rfl, _, SqL.of d2⟩, l, _, .int y1, rfl, rfl, d2, by rw [ek]; simp, hl, same_mut s2 hl, ?_, some (.int e), rfl⟩
          rw [upd_same, ek, ek1, List.dropLast_concat]
        · have h1 : ¬ y1 = -e := fun z => h1 (decide_eq_true (congrArg V.int (by omega)))
          have ek1 : kp ns (i + 1) = kp ns i ++ [.int e] := by unfold kp; rw [at1, q, Fr.push_on h1, List.reverse_cons, List.map_append]; rfl
          refine ⟨.ref l, rfl, .inl ⟨rfl, _, SqL.of d2⟩, .int e, rfl, l, _, _, rfl, rfl, d2, hlt, hl, same_mut s2 hl, ?_, some (.int e), rfl⟩
          rw [upd_same, ek1]
    · refine ⟨_, (pss_cons (ps_set (i := 1) sc__law_bare.nd rfl (Or.inl rfl) (pe_lst pa_nil)) (pss_cons (ps_for PassesOwn.never rfl (kpi_tup (K := K) (pv 0)) (pg_name (i := 2) sc__law_bare.nd rfl (Or.inl rfl)) (pss_one (ps_if (PW.pt (pw_and (pt_cmpR (kop_neD (K := K) hr.units) (pv 1) (pe_lst pa_nil) (nomark _)) (pw_and1 (pt_cmpR op_eq (pe_ix (kix_list (K := K)) (pv 1) (pe_un un_neg pe_int) (fun _ _ => rfl)) (pe_op op_sub pe_int (pv 2)) (nomark _))))) (pss_one (ps_expr (pe_bm0 PySem.F.plainAttrs_list PySem.F.slot_list_pop PySem.F.type_list_pop mt_pop (pv 1)))) (pss_one (ps_expr (pe_bm PySem.F.plainAttrs_list PySem.F.slot_list_append PySem.F.type_list_append mt_append (pv 1) (pa_cons (pv 2) pa_nil))))))) (pss_one (ps_ret (pe_callTy (kcall_tuple (K := K)) (by rfl) T.n_tuple bo_tuple (pa_cons (pv 1) pa_nil)))))), ?_⟩
      refine ⟨Nat.zero_le _, fun l hl => ⟨.ref a, rfl, a, rfl, ⟨_, same_tup (new_same hl) h⟩, for_tup (K := K) (a := a) (xs := ns.map V.int) (Pv l) ⟨hl, new_same hl, upd_same, none, rfl⟩ (fun i σ H' _ p => same_tup p.2.1 h) (fun i x σ H' hx p => ?_) fun σ H' p => last l σ H' p⟩⟩
      obtain ⟨_, s1, d1, y, rfl⟩ := p
      obtain ⟨e, he, rfl⟩ := get_int hx
      have at1 := act_take he
      have hlt : (kp ns i).length < sizeLine := zl (kp_len ns i)
      refine ⟨.ref l, rfl, Nat.zero_le _, fun z hz0 => ?_⟩
      have nz : l ≠ z := fun q => by rw [q, hz0] at d1; cases d1
      have s2 := Same.trans s1 (new_same (o := .lst []) hz0)
      have d2 : upd H' z (.lst []) l = some (.lst (kp ns i)) := by rw [upd_ne nz]; exact d1
      have ez : upd H' z (.lst []) z = some (.lst (([] : List Int).map V.int)) := upd_same
      generalize upd H' z (.lst []) = H2 at s2 d2 ez
      refine ne_list (lst_of d2) (lst_of ez) ⟨_, rfl, ?_⟩
      cases q : Fr.act (ns.take i) [] with
      | nil =>
        have ek : kp ns i = [] := by unfold kp; rw [q]; rfl
        have ek1 : kp ns (i + 1) = [.int e] := by unfold kp; rw [at1, q]; rfl
        refine ⟨.ref l, rfl, .inl ⟨rfl, _, SqL.of d2⟩, .int e, rfl, l, _, _, rfl, rfl, d2, hlt, hl, same_mut s2 hl, ?_, some (.int e), rfl⟩
        rw [upd_same, ek, ek1]
        rfl
      | cons y1 t =>
        have ek : kp ns i = (t.reverse.map V.int) ++ [.int y1] := by unfold kp; rw [q, List.reverse_cons, List.map_append]; rfl
        have en : (!decide ((y1 :: t).reverse = [])) = true := by simp
        show if (!decide ((y1 :: t).reverse = [])) = true then _ else _
        rw [if_pos en]
        refine ⟨.ref l, rfl, 1, rfl, l, _, _, .int y1, rfl, rfl, lst_of d2, by rw [ek]; exact atI_last _ _, .int e, rfl, _, _, rfl, rfl, rfl, _, rfl, ?_⟩
        refine ite2 (fun h1 => ?_) fun h1 => ?_
        · have h1 : y1 = -e := by have := V.int.inj (of_decide_eq_true h1); omega
          have ek1 : kp ns (i + 1) = t.reverse.map V.int := by unfold kp; rw [at1, q, Fr.push_eq h1]
          refine ⟨.ref l, rfl, .inl ⟨rfl, _, SqL.of d2⟩, l, _, .int y1, rfl, rfl, d2, by rw [ek]; simp, hl, same_mut s2 hl, ?_, some (.int e), rfl⟩
          rw [upd_same, ek, ek1, List.dropLast_concat]
        · have h1 : ¬ y1 = -e := fun z => h1 (decide_eq_true (congrArg V.int (by omega)))
          have ek1 : kp ns (i + 1) = kp ns i ++ [.int e] := by unfold kp; rw [at1, q, Fr.push_on h1, List.reverse_cons, List.map_append]; rfl
          refine ⟨.ref l, rfl, .inl ⟨rfl, _, SqL.of d2⟩, .int e, rfl, l, _, _, rfl, rfl, d2, hlt, hl, same_mut s2 hl, ?_, some (.int e), rfl⟩
          rw [upd_same, ek1]
theorem cl__law_bare (T : Txt K mg) : Cl P w K mg base 1 "_law_bare" (spLBare K) := by
  obtain ⟨f, fd, F, hm, hb⟩ := T.f__law_bare
  exact cl_of (ok__law_bare F T) hm F.kp hb
theorem ok__law_back {f : Addr} {fd : FuncData} (F : Fun K "_law_back" "_law_back" st__law_back f fd) (T : Txt K mg) : FnOk P w K mg base CX0 1 f fd ["row"] (spOpp K) := by
  refine F.ok sc__law_back (fun vs H Q E h => ?_) (fun cdv A outer s H vs Q E hr h => ?_)
  · obtain ⟨a, ns, rfl, _⟩ := h
    rfl
  · obtain ⟨a, ns, rfl, h, hz, k⟩ := h
    refine ⟨_, (pss_one (ps_ret (pe_callTy (kcall_tuple (K := K)) (by rfl) T.n_tuple bo_tuple (pa_cons (pe_lc (own := [("tie", 1)]) rfl sc__law_back.nd (kpi_tup (K := K) (kpe_revT (K := K) (pv 0))) (blkOk_by (N := nm__law_back) (sc := defScope st__law_back) (by decide +kernel)) (fun _ _ _ _ _ => (pg_name (i := 1) sc__law_back.nd rfl (by first | exact Or.inl rfl | exact Or.inr rfl))) (fun _ _ _ _ _ => pts_nil) (fun _ _ _ _ _ => (pe_op op_sub pe_int (pv 1)))) pa_nil)))), ?_⟩
    refine ⟨.ref a, rfl, a, _, rfl, h, fun p hp => ⟨p, rfl, ⟨_, tup_of upd_same⟩, fun D hD => lc_tup (K := K) (a := p) (xs := (ns.map V.int).reverse) (fun i H' => Same (upd H p (.tup (ns.map V.int).reverse)) H' ∧ H' D = some (.lst (((ns.reverse.take i).map fun x => -x).map V.int))) ⟨new_same hD, upd_same⟩ (fun i H' _ q => same_tup q.1 (tup_of upd_same)) (fun i x H' hx q => ?_) fun H' q => ?_⟩⟩
    · rw [← List.map_reverse] at hx
      have hi : i < ns.length := by
        have := (List.getElem?_eq_some_iff.mp hx).1
        rw [List.length_map, List.length_reverse] at this
        exact this
      rw [List.getElem?_map] at hx
      cases z : ns.reverse[i]? with
      | none => rw [z] at hx; cases hx
      | some e =>
        rw [z] at hx
        cases hx
        refine ⟨rfl, .int e, rfl, _, _, rfl, rfl, _, q.2, Nat.lt_of_le_of_lt (Nat.le_trans (by rw [List.length_map, List.length_map, List.length_take]; omega) hz) (by decide), same_mut q.1 hD, ?_⟩
        rw [upd_same, opp_take ns i e z, List.map_append]
        show some (HO.lst (_ ++ [V.int (0 - e)])) = some (HO.lst (_ ++ [V.int (-e)]))
        rw [Int.zero_sub]
    · refine ⟨D, _, rfl, .inl ⟨lst_of q.2, fun l hl => k _ _ (Same.trans (Same.trans (new_same hp) q.1) (new_same hl)) (tup_of ?_)⟩⟩
      rw [upd_same, List.length_reverse, List.length_map, opp_all]
theorem cl__law_back (T : Txt K mg) : Cl P w K mg base 1 "_law_back" (spOpp K) := by
  obtain ⟨f, fd, F, hm, hb⟩ := T.f__law_back
  exact cl_of (ok__law_back F T) hm F.kp hb
/-! ties as pairs, directed ties -/
abbrev Ts := List (Int × Int)
def rw_ (t : Int × Int) : List Int := [t.1, t.2]
def tieD (t : Int × Int) : PyData := tupD (rw_ t)
def TiesT (K : PySem.W.Frag) (H : Hp) (a : Addr) (ts : Ts) : Prop := ∃ ps : List V, SqT K H a ps ∧ DpAll K H ps (ts.map tieD)
def beg (ts : Ts) (t : Int) : Int := if t > 0 then (ts.getD (t - 1).toNat (0, 0)).1 else (ts.getD (0 - t - 1).toNat (0, 0)).2
def IsDir (ts : Ts) (t : Int) : Prop := t ≠ 0 ∧ -(ts.length : Int) ≤ t ∧ t ≤ (ts.length : Int)
instance (ts : Ts) (t : Int) : Decidable (IsDir ts t) := inferInstanceAs (Decidable (_ ∧ _))
theorem IsDir.neg {ts : Ts} {t : Int} (h : IsDir ts t) : IsDir ts (-t) := ⟨by have := h.1; omega, by have := h.2.2; omega, by have := h.2.1; omega⟩
def dirs (n : Nat) : List Int := (List.range n).map (fun i : Nat => (i : Int) - (n : Int)) ++ (List.range n).map (fun i : Nat => (i : Int) + 1)
theorem mem_dirs {n : Nat} {t : Int} : t ∈ dirs n ↔ t ≠ 0 ∧ -(n : Int) ≤ t ∧ t ≤ n := by
  unfold dirs
  rw [List.mem_append, List.mem_map, List.mem_map]
  constructor
  · rintro (⟨i, hi, rfl⟩ | ⟨i, hi, rfl⟩)
    · rw [List.mem_range] at hi; omega
    · rw [List.mem_range] at hi; omega
  · intro h
    by_cases hp : t > 0
    · exact .inr ⟨(t - 1).toNat, List.mem_range.mpr (by omega), by omega⟩
    · exact .inl ⟨(t + n).toNat, List.mem_range.mpr (by omega), by omega⟩
theorem dirs_len (n : Nat) : (dirs n).length = n + n := by unfold dirs; simp
def begs (ts : Ts) (p : Int) : List Int := (dirs ts.length).filter fun t => decide (beg ts t = p)
theorem ties_same {H H1 : Hp} {a : Addr} {ts : Ts} (e : Same H H1) (h : TiesT K H a ts) : TiesT K H1 a ts := by
  obtain ⟨ps, h1, h2⟩ := h
  exact ⟨ps, same_tup e h1, dpa_same e _ _ h2⟩
theorem ties_len {H : Hp} {ts : Ts} {ps : List V} (h2 : DpAll K H ps (ts.map tieD)) : ps.length = ts.length := by rw [dpa_len h2, List.length_map]
theorem dpa_at {H : Hp} : ∀ {vs : List V} {ts : Ts} {i : Nat} {v : V}, DpAll K H vs (ts.map tieD) → vs[i]? = some v → ∃ p, v = .ref p ∧ SqT K H p ((rw_ (ts.getD i (0, 0))).map V.int)
  | [], _, _, _, _, h => nomatch h
  | v :: vs, [], _, _, h, _ => nomatch h
  | v :: vs, t :: ts, 0, u, h, e => by
    cases e
    cases h with
    | cons h1 _ =>
      cases h1 with
      | tup h2 h3 => exact ⟨_, rfl, by rw [dpa_ints h3] at h2; exact h2⟩
  | v :: vs, t :: ts, i + 1, u, h, e => by
    cases h with
    | cons _ h2 => exact dpa_at (i := i) h2 e
theorem ties_at {H : Hp} {ps : List V} {ts : Ts} {j : Nat} (h2 : DpAll K H ps (ts.map tieD)) (hj : j < ts.length) : ∃ p, ps[j]? = some (.ref p) ∧ SqT K H p [.int (ts.getD j (0, 0)).1, .int (ts.getD j (0, 0)).2] := by
  have hl := ties_len h2
  have e := List.getElem?_eq_getElem (show j < ps.length by omega)
  obtain ⟨p, hp, hq⟩ := dpa_at h2 e
  exact ⟨p, by rw [e, hp], hq⟩
def spBegin (K : PySem.W.Frag) : Sp := fun vs H Q _ => ∃ (a : Addr) (ts : Ts) (t : Int), vs = [.ref a, .int t] ∧ TiesT K H a ts ∧ IsDir ts t ∧ ∀ H', Same H H' → Q (.int (beg ts t)) H'
theorem ok__law_begin {f : Addr} {fd : FuncData} (F : Fun K "_law_begin" "_law_begin" st__law_begin f fd) (T : Txt K mg) : FnOk P w K mg base CX0 1 f fd ["ties", "tie"] (spBegin K) := by
  refine F.ok sc__law_begin (fun vs H Q E h => ?_) (fun cdv A outer s H vs Q E hr h => ?_)
  · obtain ⟨a, ts, t, rfl, _⟩ := h
    rfl
  · obtain ⟨a, ts, t, rfl, ⟨ps, h1, h2⟩, ⟨t0, t1, t2⟩, k⟩ := h
    have hl := ties_len h2
    refine ⟨_, (pss_one (ps_ret (pe_ifExp (pt_cmpR op_gt (pv 1) pe_int (nomark _)) (pe_ix (kix_tup (K := K)) (pe_ix (kix_tup (K := K)) (pv 0) (pe_op op_sub (pv 1) pe_int) (fun _ _ => rfl)) pe_int (fun _ _ => rfl)) (pe_ix (kix_tup (K := K)) (pe_ix (kix_tup (K := K)) (pv 0) (pe_op op_sub (pe_op op_sub pe_int (pv 1)) pe_int) (fun _ _ => rfl)) pe_int (fun _ _ => rfl))))), ?_⟩
    refine es_ret (P := IsV (.int (beg ts t))) (es_if (eb_test (es_i0 (es_vV rfl) es_cV)) (fun hb => ?_) fun hb => ?_) fun v H' e ev => by subst ev; exact k H' e
    · have hb : 0 < t := of_decide_eq_true hb
      obtain ⟨p, hp, hq⟩ := ties_at h2 (j := (t - 1).toNat) (by omega)
      have e1 : beg ts t = (ts.getD (t - 1).toNat (0, 0)).1 := if_pos hb
      rw [e1]
      have a1 : atI ps (t - 1) = some (.ref p) := by
        have := atI_nat hp
        rwa [show (((t - 1).toNat : Nat) : Int) = t - 1 by omega] at this
      exact es_ixSq (es_imp (es_ixSq (es_seqT rfl h1) (es_i0 (es_vV rfl) es_cV) a1) fun v H' e ev => ⟨p, ev, same_tup e hq⟩) es_cV (atI_nat (j := 0) rfl)
    · have hb : ¬ 0 < t := of_decide_eq_false hb
      obtain ⟨p, hp, hq⟩ := ties_at h2 (j := (0 - t - 1).toNat) (by omega)
      have e1 : beg ts t = (ts.getD (0 - t - 1).toNat (0, 0)).2 := if_neg hb
      rw [e1]
      have a1 : atI ps (0 - t - 1) = some (.ref p) := by
        have := atI_nat hp
        rwa [show (((0 - t - 1).toNat : Nat) : Int) = 0 - t - 1 by omega] at this
      exact es_ixSq (es_imp (es_ixSq (es_seqT rfl h1) (es_i0 (es_i0 es_cV (es_vV rfl)) es_cV) a1) fun v H' e ev => ⟨p, ev, same_tup e hq⟩) es_cV (atI_nat (j := 1) rfl)
theorem cl__law_begin (T : Txt K mg) : Cl P w K mg base 1 "_law_begin" (spBegin K) := by
  obtain ⟨f, fd, F, hm, hb⟩ := T.f__law_begin
  exact cl_of (ok__law_begin F T) hm F.kp hb
def spEnd (K : PySem.W.Frag) : Sp := fun vs H Q _ => ∃ (a : Addr) (ts : Ts) (t : Int), vs = [.ref a, .int t] ∧ TiesT K H a ts ∧ IsDir ts t ∧ ∀ H', Same H H' → Q (.int (beg ts (-t))) H'
theorem ok__law_end {f : Addr} {fd : FuncData} (F : Fun K "_law_end" "_law_end" st__law_end f fd) (T : Txt K mg) : FnOk P w K mg base CX0 2 f fd ["ties", "tie"] (spEnd K) := by
  have c__law_begin : Cl P w K mg base 1 "_law_begin" (spBegin K) := cl__law_begin T
  refine F.ok sc__law_end (fun vs H Q E h => ?_) (fun cdv A outer s H vs Q E hr h => ?_)
  · obtain ⟨a, ts, t, rfl, _⟩ := h
    rfl
  · obtain ⟨a, ts, t, rfl, h1, hd, k⟩ := h
    refine ⟨_, (pss_one (ps_ret (pe_f c__law_begin hr (by decide) rfl (pa_cons (pv 0) (pa_cons (pe_op op_sub pe_int (pv 1)) pa_nil))))), ?_⟩
    have e0 : (0 : Int) - t = -t := by omega
    refine es_ret (P := IsV (.int (beg ts (-t)))) (es_fn (evc (es_vV rfl) (evc (es_i0 es_cV (es_vV rfl)) ev0)) fun H1 e Q q => ⟨a, ts, -t, by rw [e0], ties_same e h1, hd.neg, fun H' e' => q _ _ e' rfl⟩) fun v H' e ev => by subst ev; exact k H' e
theorem cl__law_end (T : Txt K mg) : Cl P w K mg base 2 "_law_end" (spEnd K) := by
  obtain ⟨f, fd, F, hm, hb⟩ := T.f__law_end
  exact cl_of (ok__law_end F T) hm F.kp hb
def spDirected (K : PySem.W.Frag) : Sp := fun vs H Q _ => ∃ (a : Addr) (ps : List V), vs = [.ref a] ∧ SqT K H a ps ∧ ps.length ≤ 1000 ∧ ∀ H' p, Same H H' → H p = none → H' p = some (.lst ((dirs ps.length).map V.int)) → Q (.ref p) H'
theorem rg_dirs (n : Nat) : rgV (0 - (n : Int)) 0 ++ rgV 1 ((n : Int) + 1) = (dirs n).map V.int := by
  unfold dirs rgV
  rw [List.map_append, List.map_map, List.map_map]
  have e1 : ((0 : Int) - (0 - (n : Int))).toNat = n := by omega
  have e2 : ((n : Int) + 1 - 1).toNat = n := by omega
  rw [e1, e2]
  congr 1
  · refine List.map_congr_left fun i _ => congrArg V.int ?_
    show (_ : Int) = _
    simp only []
    omega
  · refine List.map_congr_left fun i _ => congrArg V.int ?_
    show (_ : Int) = _
    simp only []
    omega
theorem ok__law_directed {f : Addr} {fd : FuncData} (F : Fun K "_law_directed" "_law_directed" st__law_directed f fd) (T : Txt K mg) : FnOk P w K mg base CX0 1 f fd ["ties"] (spDirected K) := by
  refine F.ok sc__law_directed (fun vs H Q E h => ?_) (fun cdv A outer s H vs Q E hr h => ?_)
  · obtain ⟨a, ps, rfl, _⟩ := h
    rfl
  · obtain ⟨a, ps, rfl, h1, hz, k⟩ := h
    refine ⟨_, (pss_one (ps_ret (pe_op op_cat (pe_listRg rfl (by rfl) T.n_list (prg_2 (by rfl) T.n_range (pe_op op_sub pe_int (pe_callB (kcall_len (K := K)) (by rfl) T.n_len bo_len (pa_cons (pv 0) pa_nil))) pe_int)) (pe_listRg rfl (by rfl) T.n_list (prg_2 (by rfl) T.n_range pe_int (pe_op op_add (pe_callB (kcall_len (K := K)) (by rfl) T.n_len bo_len (pa_cons (pv 0) pa_nil)) pe_int)))))), ?_⟩
    have el : EvS (tCB (N0.rLen K) (tCons (tVar 0) tNil)) [some (.ref a)] H (IsV (.int ((ps.length : Nat) : Int))) := es_lenSq (es_seqT rfl h1)
    refine es_ret (P := NewL H ((dirs ps.length).map V.int)) (es_imp (es_catL (es_rg2 (es_i0 es_cV el) es_cV ⟨by omega, by omega, by omega, by omega, by omega⟩) (es_rg2 es_cV (es_i0 el es_cV) ⟨by omega, by omega, by omega, by omega, by omega⟩) ?_) fun v H' e p => ?_) fun v H' e ⟨D, ev, d, n⟩ => ?_
    · rw [rgV_length, rgV_length]; omega
    · rwa [rg_dirs] at p
    · subst ev
      exact k H' D e n d
theorem cl__law_directed (T : Txt K mg) : Cl P w K mg base 1 "_law_directed" (spDirected K) := by
  obtain ⟨f, fd, F, hm, hb⟩ := T.f__law_directed
  exact cl_of (ok__law_directed F T) hm F.kp hb
def spBegs (K : PySem.W.Frag) : Sp := fun vs H Q _ => ∃ (a : Addr) (ts : Ts) (p : Int), vs = [.ref a, .int p] ∧ TiesT K H a ts ∧ ts.length ≤ 1000 ∧ ∀ H' q, Same H H' → SqT K H' q ((begs ts p).map V.int) → Q (.ref q) H'
theorem ok__law_beginnings {f : Addr} {fd : FuncData} (F : Fun K "_law_beginnings" "_law_beginnings" st__law_beginnings f fd) (T : Txt K mg) : FnOk P w K mg base CX0 2 f fd ["ties", "point"] (spBegs K) := by
  have c__law_begin : Cl P w K mg base 1 "_law_begin" (spBegin K) := cl__law_begin T
  have c__law_directed : Cl P w K mg base 1 "_law_directed" (spDirected K) := cl__law_directed T
  refine F.ok sc__law_beginnings (fun vs H Q E h => ?_) (fun cdv A outer s H vs Q E hr h => ?_)
  · obtain ⟨a, ts, p, rfl, _⟩ := h
    rfl
  · obtain ⟨a, ts, p, rfl, h1, hz, k⟩ := h
    refine ⟨_, (pss_one (ps_ret (pe_callTy (kcall_tuple (K := K)) (by rfl) T.n_tuple bo_tuple (pa_cons (pe_lc (own := [("tie", 2)]) rfl sc__law_beginnings.nd (kpi_list (K := K) (pe_f c__law_directed hr (by decide) rfl (pa_cons (pv 0) pa_nil))) (blkOk_by (N := nm__law_beginnings) (sc := defScope st__law_beginnings) (by decide +kernel)) (fun _ _ _ _ _ => (pg_name (i := 2) sc__law_beginnings.nd rfl (by first | exact Or.inl rfl | exact Or.inr rfl))) (fun _ _ _ _ _ => pts_one (pt_cmpR op_eq (pe_f c__law_begin hr (by decide) rfl (pa_cons (pv 0) (pa_cons (pv 2) pa_nil))) (pv 1) (nomark _))) (fun _ _ _ _ _ => (pv 2))) pa_nil)))), ?_⟩
    obtain ⟨ps, h2, h3⟩ := id h1
    have hl := ties_len h3
    refine es_ret (P := fun v H' => ∃ q, v = .ref q ∧ SqT K H' q ((begs ts p).map V.int)) (es_tupL (es_lcI (ns := dirs ts.length) (fun t => decide (beg ts t = p)) V.int (fun x => [some (.ref a), some (.int p), some x]) (ei_list ?_) ?_ (fun i hi H' Q q => q) (fun i hi => rfl) (fun i hi => ?_) fun i hi hb => ?_)) fun v H' e ⟨q, ev, hq⟩ => ?_
    · exact es_fn (evc (es_vV rfl) ev0) fun H1 e Q q => ⟨a, ps, rfl, same_tup e h2, by omega, fun H' D e' n d => q _ _ e' ⟨D, rfl, lst_of (by rw [← hl]; exact d)⟩⟩
    · rw [dirs_len]; omega
    · have hd : IsDir ts i := mem_dirs.mp hi
      exact eb_test (es_eqI (es_fn (evc (es_vV rfl) (evc (es_vV rfl) ev0)) fun H1 e Q q => ⟨a, ts, i, rfl, ties_same e h1, hd, fun H' e' => q _ _ e' rfl⟩) (es_vV rfl))
    · exact es_vV rfl
    · subst ev
      exact k H' q e hq
theorem cl__law_beginnings (T : Txt K mg) : Cl P w K mg base 2 "_law_beginnings" (spBegs K) := by
  obtain ⟨f, fd, F, hm, hb⟩ := T.f__law_beginnings
  exact cl_of (ok__law_beginnings F T) hm F.kp hb
theorem sk_upd {H : Hp} {S l : Addr} {o : HO} (h : Sk H (some S)) (n : S ≠ l) : Sk (upd H l o) (some S) := by
  obtain ⟨a, b, c, e⟩ := h
  exact ⟨a, b, c, by rw [upd_ne n]; exact e⟩
theorem rs_new {H : Hp} {S l : Addr} {o : HO} (h : Sk H (some S)) (hl : H l = none) : Rs (some S) H (upd H l o) := .same h (new_same hl)
theorem sk_ne {H : Hp} {S l : Addr} (h : Sk H (some S)) (hl : H l = none) : S ≠ l := fun q => by
  subst q
  obtain ⟨a, b, c, e⟩ := h
  rw [hl] at e
  cases e
/-- a list that was not there changes -/
theorem rs_mut {H H1 : Hp} {S l : Addr} {o : HO} (r : Rs (some S) H H1) (hl : H l = none) : Rs (some S) H (upd H1 l o) := ⟨r.s0, sk_upd r.s1 (sk_ne r.s0 hl), fun a u n e => by
  rw [upd_ne (ne_of_none e hl)]
  exact r.keep a u n e⟩
/-! points; shuffled -/
structure Full (ts : Ts) (n : Nat) : Prop where
  rg : ∀ t ∈ ts, 0 ≤ t.1 ∧ t.1 < (n : Int) ∧ 0 ≤ t.2 ∧ t.2 < (n : Int)
  top : ∃ t ∈ ts, t.1 = (n : Int) - 1 ∨ t.2 = (n : Int) - 1
def imax (x y : Int) : Int := if y > x then y else x
def spPoints (K : PySem.W.Frag) : Sp := fun vs H Q _ => ∃ (a : Addr) (ts : Ts) (n : Nat), vs = [.ref a] ∧ TiesT K H a ts ∧ Full ts n ∧ ts.length ≤ 1000 ∧ ∀ H', Same H H' → Q (.int (n : Int)) H'
theorem ok__law_points {f : Addr} {fd : FuncData} (F : Fun K "_law_points" "_law_points" st__law_points f fd) (T : Txt K mg) : FnOk P w K mg base CX0 1 f fd ["ties"] (spPoints K) := by
  refine F.ok sc__law_points (fun vs H Q E h => ?_) (fun cdv A outer s H vs Q E hr h => ?_)
  · obtain ⟨a, ts, n, rfl, _⟩ := h
    rfl
  · obtain ⟨a, ts, n, rfl, ⟨ps, h2, h3⟩, hf, hz, k⟩ := h
    have hl := ties_len h3
    refine ⟨_, (pss_one (ps_ret (pe_op op_add pe_int (pe_callB (kcr_maxA (K := K) rfl) (by rfl) T.n_max bo_max (pa_cons (pe_lc (own := [("pair", 1)]) rfl sc__law_points.nd (kpi_tup (K := K) (pv 0)) (blkOk_by (N := nm__law_points) (sc := defScope st__law_points) (by decide +kernel)) (fun _ _ _ _ _ => (pg_name (i := 1) sc__law_points.nd rfl (by first | exact Or.inl rfl | exact Or.inr rfl))) (fun _ _ _ _ _ => pts_nil) (fun _ _ _ _ _ => (pe_callB (kcr_maxA (K := K) rfl) (by rfl) T.n_max bo_max (pa_cons (pv 1) pa_nil)))) pa_nil))))), ?_⟩
    have el : EvS (tCB (rMaxA K) (tCons (tLc (iTup K (tVar 0)) (gName 1) tYes (tCB (rMaxA K) (tCons (tVar 1) tNil)) [1]) tNil)) [some (.ref a), none] H (IsV (.int ((n : Int) - 1))) := by
      refine es_cb1 (es_lcN (g := gName 1) (vs := [1]) (σ := [some (.ref a), none]) (P := fun i y _ => ∃ m, y = .int m ∧ (m = (ts.getD i (0, 0)).1 ∨ m = (ts.getD i (0, 0)).2) ∧ (ts.getD i (0, 0)).1 ≤ m ∧ (ts.getD i (0, 0)).2 ≤ m) (fun x => [some (.ref a), some x]) (fun _ _ _ _ _ h => h) (fun _ _ _ _ _ _ _ h => h) (ei_tup (es_seqT (i := 0) rfl h2)) (by omega) (fun _ _ _ _ q => q) (fun _ _ => rfl) (fun i x hx => ?_)) fun v H2 e2 ⟨D, ys, ev, d, _, yl, hp⟩ Q q => ?_
      · obtain ⟨p, rfl, hq⟩ := dpa_at h3 hx
        exact fun G1 g1 R r => ⟨.ref p, rfl, p, rw_ (ts.getD i (0, 0)), rfl, .inr (same_tup g1 hq), by show 0 < 2; decide, fun m hm hu => r _ G1 (Same.refl _) ⟨m, rfl, by simpa [rw_] using hm, hu _ (by simp [rw_]), hu _ (by simp [rw_])⟩⟩
      · subst ev
        have hlt : ∀ {i : Nat} {y : V}, ys[i]? = some y → i < ts.length := fun h => by
          have := (List.getElem?_eq_some_iff.mp h).1
          omega
        obtain ⟨ns, en⟩ : ∃ ns : List Int, ys = ns.map V.int := by
          refine ⟨ys.map fun v => match v with | .int i => i | _ => 0, ?_⟩
          rw [List.map_map]
          refine (List.map_id _).symm.trans (List.map_congr_left fun y hy => ?_)
          obtain ⟨i, hi, rfl⟩ := List.mem_iff_getElem.mp hy
          obtain ⟨m, em, _⟩ := hp i _ (List.getElem?_eq_getElem hi)
          rw [em]
          rfl
        subst en
        have hat : ∀ {i : Nat} {m : Int}, ns[i]? = some m → (m = (ts.getD i (0, 0)).1 ∨ m = (ts.getD i (0, 0)).2) ∧ (ts.getD i (0, 0)).1 ≤ m ∧ (ts.getD i (0, 0)).2 ≤ m := fun {i m} h => by
          obtain ⟨m', em, r⟩ := hp i (.int m) (by rw [List.getElem?_map, h]; rfl)
          cases em
          exact r
        rw [List.length_map] at yl
        refine ⟨D, ns, rfl, .inl (lst_of d), ?_, fun m hm hu => ?_⟩
        · obtain ⟨t, ht, _⟩ := hf.top
          have := List.length_pos_of_mem ht
          omega
        · refine q _ _ (Same.refl _) ?_
          show V.int m = _
          congr 1
          obtain ⟨i, hi, rfl⟩ := List.mem_iff_getElem.mp hm
          obtain ⟨h1, _⟩ := hat (List.getElem?_eq_getElem hi)
          have hti : ts.getD i (0, 0) ∈ ts := by
            rw [List.getD_eq_getElem?_getD, List.getElem?_eq_getElem (show i < ts.length by omega)]
            exact List.getElem_mem _
          have hr1 := hf.rg _ hti
          obtain ⟨t, ht, h2⟩ := hf.top
          obtain ⟨j, hj, rfl⟩ := List.mem_iff_getElem.mp ht
          have hj' : j < ns.length := by omega
          have hh := hat (List.getElem?_eq_getElem hj')
          have hd : ts.getD j (0, 0) = ts[j] := by
            rw [List.getD_eq_getElem?_getD, List.getElem?_eq_getElem hj]
            rfl
          rw [hd] at hh
          have := hu ns[j] (List.getElem_mem _)
          omega
    refine es_ret (P := IsV (.int (n : Int))) (es_as (es_i0 es_cV el) ?_) fun v H' e ev => by subst ev; exact k H' e
    show V.int (1 + ((n : Int) - 1)) = _
    congr 1
    omega
theorem cl__law_points (T : Txt K mg) : Cl P w K mg base 1 "_law_points" (spPoints K) := by
  obtain ⟨f, fd, F, hm, hb⟩ := T.f__law_points
  exact cl_of (ok__law_points F T) hm F.kp hb
def spShuf (K : PySem.W.Frag) : Sp := fun vs H Q _ => ∃ (S l : Addr) (xs : List V), vs = [.ref S, .ref l] ∧ Sk H (some S) ∧ S ≠ l ∧ SqL K H l xs ∧ xs.length ≤ 1000 ∧ ∀ H' p ys, Rs (some S) H H' → H p = none → H' p = some (.lst ys) → ys.Perm xs → Q (.ref p) H'
theorem ok__law_shuffled {f : Addr} {fd : FuncData} (F : Fun K "_law_shuffled" "_law_shuffled" st__law_shuffled f fd) (T : Txt K mg) : FnOk P w K mg base CX0 2 f fd ["jar", "items"] (spShuf K) := by
  have c__law_pour : Cl P w K mg base 1 "_law_pour" spDrawn := cl__law_pour T
  refine F.ok sc__law_shuffled (fun vs H Q E h => ?_) (fun cdv A outer s H vs Q E hr h => ?_)
  · obtain ⟨S, l, xs, rfl, _⟩ := h
    rfl
  · obtain ⟨S, l, xs, rfl, hS, ne, hl, hz, k⟩ := h
    refine ⟨_, (pss_cons (ps_par (i := 2) (j := 3) rfl sc__law_shuffled.nd rfl rfl (by decide) rfl rfl (pa_cons (pe_callTy (kcall_list (K := K)) (by rfl) T.n_list bo_list (pa_cons (pv 1) pa_nil)) (pa_cons (pe_lst pa_nil) pa_nil)) (by with_unfolding_all rfl)) (pss_cons (ps_for PassesOwn.never rfl (pi_range1 rfl T.n_range (pa_cons (pe_callB (kcall_len (K := K)) (by rfl) T.n_len bo_len (pa_cons (pv 1) pa_nil)) pa_nil)) (pg_name (i := 4) sc__law_shuffled.nd rfl (Or.inl rfl)) (pss_one (ps_expr (pe_bm PySem.F.plainAttrs_list PySem.F.slot_list_append PySem.F.type_list_append mt_append (pv 3) (pa_cons (pe_bm PySem.F.plainAttrs_list PySem.F.slot_list_pop PySem.F.type_list_pop mt_popAt (pv 2) (pa_cons (pe_f c__law_pour hr (by decide) rfl (pa_cons (pv 0) (pa_cons (pe_callB (kcall_len (K := K)) (by rfl) T.n_len bo_len (pa_cons (pv 2) pa_nil)) pa_nil))) pa_nil)) pa_nil))))) (pss_one (ps_ret (pv 3))))), ?_⟩
    refine ⟨.ref l, rfl, l, xs, rfl, .inl hl, fun L hL => ?_⟩
    have nSL := sk_ne hS hL
    refine ⟨Nat.zero_le _, fun D hD => ⟨.ref L, .ref D, rfl, ?_⟩⟩
    have hL2 : upd H L (.lst xs) L = some (.lst xs) := upd_same
    have nDL : D ≠ L := fun q => by rw [q, hL2] at hD; cases hD
    have hD0 : H D = none := by rwa [upd_ne nDL] at hD
    have nSD := sk_ne hS hD0
    have s0 : Rs (some S) H (upd (upd H L (.lst xs)) D (.lst [])) := rs_mut (rs_new hS hL) hD0
    refine ⟨.ref l, rfl, l, xs, rfl, .inl (s0.lst (fun q => ne (Option.some.inj q)) hl), (xs.length : Int), rfl, by omega, by omega, for_range (lo := 0) (n := xs.length) (fun i σ H' => Rs (some S) H H' ∧ ∃ ls fs : List V, H' L = some (.lst ls) ∧ H' D = some (.lst fs) ∧ ls.length + i = xs.length ∧ (fs ++ ls).Perm xs ∧ ∃ x, σ = [some (.ref S), some (.ref l), some (.ref L), some (.ref D), x]) ⟨s0, xs, [], by rw [upd_ne (Ne.symm nDL)]; exact hL2, upd_same, rfl, List.Perm.refl _, none, rfl⟩ (fun i σ H' hi p => ?_) fun σ H' p => ?_⟩
    · obtain ⟨s1, ls, fs, dL, dD, hn, hp, x, rfl⟩ := p
      have hfl : fs.length + ls.length = xs.length := by rw [← List.length_append]; exact hp.length_eq
      refine ⟨.ref D, rfl, .inl ⟨rfl, _, SqL.of dD⟩, .ref L, rfl, .inl ⟨rfl, _, SqL.of dL⟩, .ref S, rfl, .ref L, rfl, L, _, rfl, .inl (lst_of dL), S, _, rfl, s1.s1, by omega, by omega, fun H1 r r1 a0 a1 => ?_⟩
      have e1 : H1 L = some (.lst ls) := r1.keep _ _ (fun q => nSL (Option.some.inj q)) dL
      have e2 : H1 D = some (.lst fs) := r1.keep _ _ (fun q => nSD (Option.some.inj q)) dD
      obtain ⟨j, rfl⟩ : ∃ j : Nat, r = (j : Int) := ⟨r.toNat, by omega⟩
      have hj : j < ls.length := by omega
      refine ⟨L, ls, (j : Int), j, ls[j], rfl, rfl, e1, by omega, by omega, ?_, List.getElem?_eq_getElem hj, ?_⟩
      · unfold seqIndex?
        simp
        omega
      · have e3 : upd H1 L (.lst (ls.eraseIdx j)) D = some (.lst fs) := by rw [upd_ne nDL]; exact e2
        refine ⟨D, _, _, rfl, rfl, e3, small1000 (by omega), rs_mut (rs_mut (s1.tr r1) hL) hD0, ls.eraseIdx j, fs ++ [ls[j]], ?_, upd_same, ?_, ?_, some (.int (0 + i)), rfl⟩
        · rw [upd_ne (Ne.symm nDL)]
          exact upd_same
        · rw [List.length_eraseIdx]
          simp [hj]
          omega
        · refine List.Perm.trans ?_ hp
          rw [List.append_assoc]
          refine List.Perm.append_left _ ?_
          have ec : ls = ls.take j ++ ls[j] :: ls.drop (j + 1) := by rw [List.getElem_cons_drop, List.take_append_drop]
          rw [List.eraseIdx_eq_take_drop_succ]
          show List.Perm (ls[j] :: (ls.take j ++ ls.drop (j + 1))) ls
          exact (List.perm_middle (l₁ := ls.take j) (a := ls[j]) (l₂ := ls.drop (j + 1))).symm.trans (List.Perm.of_eq ec.symm)
    · obtain ⟨s1, ls, fs, dL, dD, hn, hp, x, rfl⟩ := p
      have : ls = [] := List.eq_nil_of_length_eq_zero (by omega)
      subst this
      rw [List.append_nil] at hp
      exact ⟨.ref D, rfl, k H' D fs s1 hD0 dD hp⟩
theorem cl__law_shuffled (T : Txt K mg) : Cl P w K mg base 2 "_law_shuffled" (spShuf K) := by
  obtain ⟨f, fd, F, hm, hb⟩ := T.f__law_shuffled
  exact cl_of (ok__law_shuffled F T) hm F.kp hb
/-! the program's ties: begins, ends, entries, beginnings, points -/
theorem ok_begin_of {f : Addr} {fd : FuncData} (F : Fun K "begin_of" "begin_of" st_begin_of f fd) (T : Txt K mg) : FnOk P w K mg base CX0 1 f fd ["ties", "tie"] (spBegin K) := by
  refine F.ok sc_begin_of (fun vs H Q E h => ?_) (fun cdv A outer s H vs Q E hr h => ?_)
  · obtain ⟨a, ts, t, rfl, _⟩ := h
    rfl
  · obtain ⟨a, ts, t, rfl, ⟨ps, h1, h2⟩, ⟨t0, t1, t2⟩, k⟩ := h
    have hl := ties_len h2
    refine ⟨_, (pss_one (ps_ret (pe_ifExp (pt_cmpR op_gt (pv 1) pe_int (nomark _)) (pe_ix (kix_tup (K := K)) (pe_ix (kix_tup (K := K)) (pv 0) (pe_op op_sub (pv 1) pe_int) (fun _ _ => rfl)) pe_int (fun _ _ => rfl)) (pe_ix (kix_tup (K := K)) (pe_ix (kix_tup (K := K)) (pv 0) (pe_op op_sub (pe_un un_neg (pv 1)) pe_int) (fun _ _ => rfl)) pe_int (fun _ _ => rfl))))), ?_⟩
    refine es_ret (P := IsV (.int (beg ts t))) (es_if (eb_test (es_i0 (es_vV rfl) es_cV)) (fun hb => ?_) fun hb => ?_) fun v H' e ev => by subst ev; exact k H' e
    · have hb : 0 < t := of_decide_eq_true hb
      obtain ⟨p, hp, hq⟩ := ties_at h2 (j := (t - 1).toNat) (by omega)
      have e1 : beg ts t = (ts.getD (t - 1).toNat (0, 0)).1 := if_pos hb
      rw [e1]
      have a1 : atI ps (t - 1) = some (.ref p) := by
        have := atI_nat hp
        rwa [show (((t - 1).toNat : Nat) : Int) = t - 1 by omega] at this
      exact es_ixSq (es_imp (es_ixSq (es_seqT rfl h1) (es_i0 (es_vV rfl) es_cV) a1) fun v H' e ev => ⟨p, ev, same_tup e hq⟩) es_cV (atI_nat (j := 0) rfl)
    · have hb : ¬ 0 < t := of_decide_eq_false hb
      obtain ⟨p, hp, hq⟩ := ties_at h2 (j := (0 - t - 1).toNat) (by omega)
      have e1 : beg ts t = (ts.getD (0 - t - 1).toNat (0, 0)).2 := if_neg hb
      rw [e1]
      have a1 : atI ps (-t - 1) = some (.ref p) := by
        have := atI_nat hp
        rwa [show (((0 - t - 1).toNat : Nat) : Int) = -t - 1 by omega] at this
      exact es_ixSq (es_imp (es_ixSq (es_seqT rfl h1) (es_i0 (es_u (es_vV rfl)) es_cV) a1) fun v H' e ev => ⟨p, ev, same_tup e hq⟩) es_cV (atI_nat (j := 1) rfl)
theorem cl_begin_of (T : Txt K mg) : Cl P w K mg base 1 "begin_of" (spBegin K) := by
  obtain ⟨f, fd, F, hm, hb⟩ := T.f_begin_of
  exact cl_of (ok_begin_of F T) hm F.kp hb
theorem ok_end_of {f : Addr} {fd : FuncData} (F : Fun K "end_of" "end_of" st_end_of f fd) (T : Txt K mg) : FnOk P w K mg base CX0 2 f fd ["ties", "tie"] (spEnd K) := by
  have c_begin_of : Cl P w K mg base 1 "begin_of" (spBegin K) := cl_begin_of T
  refine F.ok sc_end_of (fun vs H Q E h => ?_) (fun cdv A outer s H vs Q E hr h => ?_)
  · obtain ⟨a, ts, t, rfl, _⟩ := h
    rfl
  · obtain ⟨a, ts, t, rfl, h1, hd, k⟩ := h
    refine ⟨_, (pss_one (ps_ret (pe_f c_begin_of hr (by decide) rfl (pa_cons (pv 0) (pa_cons (pe_un un_neg (pv 1)) pa_nil))))), ?_⟩
    refine es_ret (P := IsV (.int (beg ts (-t)))) (es_fn (evc (es_vV rfl) (evc (es_u (es_vV rfl)) ev0)) fun H1 e Q q => ⟨a, ts, -t, rfl, ties_same e h1, hd.neg, fun H' e' => q _ _ e' rfl⟩) fun v H' e ev => by subst ev; exact k H' e
theorem cl_end_of (T : Txt K mg) : Cl P w K mg base 2 "end_of" (spEnd K) := by
  obtain ⟨f, fd, F, hm, hb⟩ := T.f_end_of
  exact cl_of (ok_end_of F T) hm F.kp hb
def spEnts2 (K : PySem.W.Frag) : Sp := fun vs H Q _ => ∃ n : Nat, vs = [.int (n : Int)] ∧ n ≤ 1000 ∧ ∀ H' p, Same H H' → H p = none → H' p = some (.lst ((dirs n).map V.int)) → Q (.ref p) H'
theorem rgV_ints (i : Int) (m : Nat) : rgV i (i + (m : Int)) = ((List.range m).map fun k : Nat => i + (k : Int)).map V.int := by
  unfold rgV
  have e : (i + (m : Int) - i).toNat = m := by omega
  rw [e, List.map_map]
  rfl
theorem dirs_filter (n : Nat) : ((List.range (2 * n + 1)).map fun k : Nat => -(n : Int) + (k : Int)).filter (fun e => !decide (e = 0)) = dirs n := by
  have e : 2 * n + 1 = n + (n + 1) := by omega
  rw [e, List.range_add, List.map_append, List.filter_append, List.range_succ_eq_map, List.map_cons, List.map_cons, List.map_map, List.map_map, List.filter_cons]
  have z : (!decide (-(n : Int) + ((n + 0 : Nat) : Int) = 0)) = false := by rw [decide_eq_true (by omega)]; rfl
  rw [z, List.filter_eq_self.mpr, List.filter_eq_self.mpr]
  · unfold dirs
    congr 1
    · exact List.map_congr_left fun i _ => by omega
    · exact List.map_congr_left fun i _ => by show -(n : Int) + ((n + (i + 1) : Nat) : Int) = _; omega
  · intro x hx
    obtain ⟨i, hi, rfl⟩ := List.mem_map.mp hx
    have : ¬ (-(n : Int) + ((n + (i + 1) : Nat) : Int) = 0) := by omega
    show (!decide (-(n : Int) + ((n + (i + 1) : Nat) : Int) = 0)) = true
    rw [decide_eq_false this]
    rfl
  · intro x hx
    obtain ⟨i, hi, rfl⟩ := List.mem_map.mp hx
    rw [List.mem_range] at hi
    have : ¬ (-(n : Int) + (i : Int) = 0) := by omega
    rw [decide_eq_false this]
    rfl
theorem ok_entries_of {f : Addr} {fd : FuncData} (F : Fun K "entries_of" "entries_of" st_entries_of f fd) (T : Txt K mg) : FnOk P w K mg base CX0 1 f fd ["letters"] (spEnts2 K) := by
  refine F.ok sc_entries_of (fun vs H Q E h => ?_) (fun cdv A outer s H vs Q E hr h => ?_)
  · obtain ⟨n, rfl, _⟩ := h
    rfl
  · obtain ⟨n, rfl, hz, k⟩ := h
    refine ⟨_, (pss_one (ps_ret (pe_lc (own := [("entry", 1)]) rfl sc_entries_of.nd (pi_range2 rfl T.n_range (pa_cons (pe_un un_neg (pv 0)) (pa_cons (pe_op op_add (pv 0) pe_int) pa_nil))) (blkOk_by (N := nm_entries_of) (sc := defScope st_entries_of) (by decide +kernel)) (fun _ _ _ _ _ => (pg_name (i := 1) sc_entries_of.nd rfl (by first | exact Or.inl rfl | exact Or.inr rfl))) (fun _ _ _ _ _ => pts_one (pt_cmpR op_ne (pv 1) pe_int (nomark _))) (fun _ _ _ _ _ => (pv 1))))), ?_⟩
    have ei := ei_rng2 (σ := [some (.int (n : Int)), none]) (H := H) (es_u (f := fun i => V.int (-i)) (es_vV (i := 0) rfl)) (es_i0 (f := fun i j => V.int (i + j)) (es_vV (i := 0) rfl) (es_cV (v := .int 1))) (by omega) (by omega) (by omega) (by omega)
    rw [show (n : Int) + 1 = -(n : Int) + ((2 * n + 1 : Nat) : Int) by omega, rgV_ints] at ei
    refine es_ret (P := NewL H ((dirs n).map V.int)) (es_imp (es_lcI (fun e => !decide (e = 0)) V.int (fun x => [some (.int (n : Int)), some x]) ei (by rw [List.length_map, List.length_range]; omega) (fun i hi H' Q q => q) (fun i hi => rfl) (fun i hi => eb_test (es_neI (es_vV rfl) es_cV)) fun i hi hb => es_vV rfl) fun v H' e p => ?_) fun v H' e ⟨D, ev, d, n⟩ => ?_
    · rwa [dirs_filter] at p
    · subst ev
      exact k H' D e n d
theorem cl_entries_of (T : Txt K mg) : Cl P w K mg base 1 "entries_of" (spEnts2 K) := by
  obtain ⟨f, fd, F, hm, hb⟩ := T.f_entries_of
  exact cl_of (ok_entries_of F T) hm F.kp hb
def spBegsAt (K : PySem.W.Frag) : Sp := fun vs H Q _ => ∃ (a : Addr) (ts : Ts) (p : Int), vs = [.ref a, .int p] ∧ TiesT K H a ts ∧ ts.length ≤ 1000 ∧ ∀ H' q, Same H H' → H q = none → H' q = some (.lst ((begs ts p).map V.int)) → Q (.ref q) H'
theorem ok_beginnings_at {f : Addr} {fd : FuncData} (F : Fun K "beginnings_at" "beginnings_at" st_beginnings_at f fd) (T : Txt K mg) : FnOk P w K mg base CX0 2 f fd ["ties", "point"] (spBegsAt K) := by
  have c_begin_of : Cl P w K mg base 1 "begin_of" (spBegin K) := cl_begin_of T
  have c_entries_of : Cl P w K mg base 1 "entries_of" (spEnts2 K) := cl_entries_of T
  refine F.ok sc_beginnings_at (fun vs H Q E h => ?_) (fun cdv A outer s H vs Q E hr h => ?_)
  · obtain ⟨a, ts, p, rfl, _⟩ := h
    rfl
  · obtain ⟨a, ts, p, rfl, h1, hz, k⟩ := h
    refine ⟨_, (pss_one (ps_ret (pe_lc (own := [("tie", 2)]) rfl sc_beginnings_at.nd (kpi_list (K := K) (pe_f c_entries_of hr (by decide) rfl (pa_cons (pe_callB (kcall_len (K := K)) (by rfl) T.n_len bo_len (pa_cons (pv 0) pa_nil)) pa_nil))) (blkOk_by (N := nm_beginnings_at) (sc := defScope st_beginnings_at) (by decide +kernel)) (fun _ _ _ _ _ => (pg_name (i := 2) sc_beginnings_at.nd rfl (by first | exact Or.inl rfl | exact Or.inr rfl))) (fun _ _ _ _ _ => pts_one (pt_cmpR op_eq (pe_f c_begin_of hr (by decide) rfl (pa_cons (pv 0) (pa_cons (pv 2) pa_nil))) (pv 1) (nomark _))) (fun _ _ _ _ _ => (pv 2))))), ?_⟩
    obtain ⟨ps, h2, h3⟩ := id h1
    have hl := ties_len h3
    refine es_ret (P := NewL H ((begs ts p).map V.int)) (es_lcI (ns := dirs ts.length) (fun t => decide (beg ts t = p)) V.int (fun x => [some (.ref a), some (.int p), some x]) (ei_list ?_) ?_ (fun i hi H' Q q => q) (fun i hi => rfl) (fun i hi => ?_) fun i hi hb => es_vV rfl) fun v H' e ⟨q, ev, hq, n⟩ => ?_
    · exact es_fn (evc (es_as (es_lenSq (es_seqT rfl h2)) (by rw [hl])) ev0) fun H1 e Q q => ⟨ts.length, rfl, hz, fun H' D e' n d => q _ _ e' ⟨D, rfl, lst_of d⟩⟩
    · rw [dirs_len]; omega
    · have hd : IsDir ts i := mem_dirs.mp hi
      exact eb_test (es_eqI (es_fn (evc (es_vV rfl) (evc (es_vV rfl) ev0)) fun H1 e Q q => ⟨a, ts, i, rfl, ties_same e h1, hd, fun H' e' => q _ _ e' rfl⟩) (es_vV rfl))
    · subst ev
      exact k H' q e n hq
theorem cl_beginnings_at (T : Txt K mg) : Cl P w K mg base 2 "beginnings_at" (spBegsAt K) := by
  obtain ⟨f, fd, F, hm, hb⟩ := T.f_beginnings_at
  exact cl_of (ok_beginnings_at F T) hm F.kp hb
/-! drawn webs: they hang together -/
def Conn (ts : Ts) (n : Nat) : Prop := ∀ S : Int → Prop, S 0 → (∀ t ∈ ts, S t.1 ↔ S t.2) → ∀ p, 0 ≤ p → p < (n : Int) → S p
structure Drawn (ts : Ts) (n : Nat) : Prop where
  rg : ∀ t ∈ ts, 0 ≤ t.1 ∧ t.1 < (n : Int) ∧ 0 ≤ t.2 ∧ t.2 < (n : Int)
  conn : Conn ts n
  le : n ≤ ts.length + 1
theorem drawn_one : Drawn [] 1 := ⟨fun _ h => (List.not_mem_nil h).elim, fun S h _ p h0 h1 => by
  have : p = 0 := by omega
  subst this
  exact h, Nat.le_refl _⟩
theorem Drawn.leaf {ts : Ts} {n : Nat} (d : Drawn ts n) {o : Int} (h0 : 0 ≤ o) (h1 : o < (n : Int)) {t : Int × Int} (ht : t = ((n : Int), o) ∨ t = (o, (n : Int))) : Drawn (ts ++ [t]) (n + 1) := by
  refine ⟨fun u hu => ?_, fun S hS hc p p0 p1 => ?_, by rw [List.length_append]; have := d.le; simp; omega⟩
  · rcases List.mem_append.mp hu with hu | hu
    · have := d.rg u hu
      omega
    · rw [List.mem_singleton.mp hu]
      rcases ht with rfl | rfl <;> refine ⟨?_, ?_, ?_, ?_⟩ <;> simp only [] <;> omega
  · have hall := d.conn S hS fun u hu => hc u (List.mem_append_left _ hu)
    by_cases hp : p < (n : Int)
    · exact hall p p0 hp
    · have : p = (n : Int) := by omega
      subst this
      have ho := hall o h0 h1
      have := hc t (List.mem_append_right _ (List.mem_singleton.mpr rfl))
      rcases ht with rfl | rfl
      · exact this.mpr ho
      · exact this.mp ho
theorem Drawn.more {ts : Ts} {n : Nat} (d : Drawn ts n) {b e : Int} (h0 : 0 ≤ b) (h1 : b < (n : Int)) (h2 : 0 ≤ e) (h3 : e < (n : Int)) : Drawn (ts ++ [(b, e)]) n := by
  refine ⟨fun u hu => ?_, fun S hS hc => d.conn S hS fun u hu => hc u (List.mem_append_left _ hu), by rw [List.length_append]; have := d.le; omega⟩
  rcases List.mem_append.mp hu with hu | hu
  · exact d.rg u hu
  · rw [List.mem_singleton.mp hu]
    exact ⟨h0, h1, h2, h3⟩
theorem Drawn.perm {ts us : Ts} {n : Nat} (d : Drawn ts n) (h : us.Perm ts) : Drawn us n := ⟨fun u hu => d.rg u (h.mem_iff.mp hu), fun S hS hc => d.conn S hS fun u hu => hc u (h.mem_iff.mpr hu), by rw [h.length_eq]; exact d.le⟩
theorem Conn.any {ts : Ts} {n : Nat} (c : Conn ts n) {S : Int → Prop} {p0 : Int} (h0 : 0 ≤ p0) (h1 : p0 < (n : Int)) (hs : S p0) (hc : ∀ t ∈ ts, S t.1 ↔ S t.2) : ∀ p, 0 ≤ p → p < (n : Int) → S p := fun p a b => by
  have h := c (fun q => S q ↔ S 0) Iff.rfl fun t ht => by rw [hc t ht]
  exact (h p a b).mpr ((h p0 h0 h1).mp hs)
def rng (n : Nat) : List Int := (List.range n).map fun i : Nat => (i : Int)
theorem mem_rng {n : Nat} {p : Int} : p ∈ rng n ↔ 0 ≤ p ∧ p < (n : Int) := by
  unfold rng
  rw [List.mem_map]
  constructor
  · rintro ⟨i, hi, rfl⟩
    rw [List.mem_range] at hi
    omega
  · intro h
    exact ⟨p.toNat, List.mem_range.mpr (by omega), by omega⟩
theorem Drawn.renamed {ts : Ts} {n : Nat} (d : Drawn ts n) {nm : List Int} (h : nm.Perm (rng n)) : Drawn (ts.map fun t => (nm.getD t.1.toNat 0, nm.getD t.2.toNat 0)) n := by
  have hl : nm.length = n := by rw [h.length_eq]; unfold rng; simp
  have hin : ∀ p : Int, 0 ≤ p → p < (n : Int) → 0 ≤ nm.getD p.toNat 0 ∧ nm.getD p.toNat 0 < (n : Int) := fun p a b => by
    have e : nm.getD p.toNat 0 ∈ nm := by
      rw [List.getD_eq_getElem?_getD, List.getElem?_eq_getElem (show p.toNat < nm.length by omega)]
      exact List.getElem_mem _
    exact mem_rng.mp (h.mem_iff.mp e)
  refine ⟨fun u hu => ?_, fun S hS hc q q0 q1 => ?_, by rw [List.length_map]; exact d.le⟩
  · obtain ⟨t, ht, rfl⟩ := List.mem_map.mp hu
    obtain ⟨a, b, c, e⟩ := d.rg t ht
    exact ⟨(hin _ a b).1, (hin _ a b).2, (hin _ c e).1, (hin _ c e).2⟩
  · have pre : ∀ q : Int, 0 ≤ q → q < (n : Int) → ∃ p : Int, 0 ≤ p ∧ p < (n : Int) ∧ nm.getD p.toNat 0 = q := fun q a b => by
      obtain ⟨i, hi, e⟩ := List.mem_iff_getElem.mp (h.mem_iff.mpr (mem_rng.mpr ⟨a, b⟩))
      refine ⟨(i : Int), by omega, by omega, ?_⟩
      rw [Int.toNat_natCast, List.getD_eq_getElem?_getD, List.getElem?_eq_getElem hi]
      exact e
    obtain ⟨p0, a0, b0, e0⟩ := pre 0 (Int.le_refl 0) (by omega)
    obtain ⟨p, a, b, e⟩ := pre q q0 q1
    have := d.conn.any (S := fun p => S (nm.getD p.toNat 0)) a0 b0 (by rw [e0]; exact hS) (fun t ht => hc _ (List.mem_map.mpr ⟨t, ht, rfl⟩)) p a b
    simpa only [e] using this
theorem Drawn.full {ts : Ts} {n : Nat} (d : Drawn ts n) (hn : 1 ≤ n) (ht : ts ≠ []) : Full ts n := by
  refine ⟨d.rg, ?_⟩
  by_cases h1 : n = 1
  · obtain ⟨t, u, rfl⟩ := List.exists_cons_of_ne_nil ht
    refine ⟨t, List.mem_cons_self, .inl ?_⟩
    have := d.rg t List.mem_cons_self
    omega
  · refine Classical.byContradiction fun no => ?_
    have := d.conn (fun p => p ≠ (n : Int) - 1) (by omega) (fun t h => ?_) ((n : Int) - 1) (by omega) (by omega)
    · exact this rfl
    · constructor
      · exact fun _ q => no ⟨t, h, .inr q⟩
      · exact fun _ q => no ⟨t, h, .inl q⟩
theorem dpt_imp {H H1 : Hp} (e : ∀ p xs, SqT K H p xs → SqT K H1 p xs) : ∀ {vs : List V} {ts : Ts}, DpAll K H vs (ts.map tieD) → DpAll K H1 vs (ts.map tieD)
  | [], [], _ => .nil
  | [], _ :: _, h => nomatch h
  | _ :: _, [], h => nomatch h
  | v :: vs, t :: ts, h => by
    cases h with
    | cons h1 h2 =>
      refine .cons ?_ (dpt_imp e h2)
      cases h1 with
      | tup h3 h4 =>
        rw [dpa_ints h4] at h3
        exact dp_tup (e _ _ h3)
theorem dpt_mut {H : Hp} {l : Addr} {ys vs : List V} {o : HO} {ts : Ts} (d : H l = some (.lst ys)) (h : DpAll K H vs (ts.map tieD)) : DpAll K (upd H l o) vs (ts.map tieD) := dpt_imp (fun p xs h => tup_mutl d h) h
theorem dpt_rs {H H1 : Hp} {S : Addr} {vs : List V} {ts : Ts} (r : Rs (some S) H H1) (h : DpAll K H vs (ts.map tieD)) : DpAll K H1 vs (ts.map tieD) := dpt_imp (fun p xs h => r.tup h) h
theorem ties_rs {H H1 : Hp} {S a : Addr} {ts : Ts} (r : Rs (some S) H H1) (h : TiesT K H a ts) : TiesT K H1 a ts := by
  obtain ⟨ps, h1, h2⟩ := h
  exact ⟨ps, r.tup h1, dpt_rs r h2⟩
theorem dpt_app {H : Hp} {v : V} {t : Int × Int} (hv : Dp K H v (tieD t)) : ∀ {vs : List V} {ts : Ts}, DpAll K H vs (ts.map tieD) → DpAll K H (vs ++ [v]) ((ts ++ [t]).map tieD)
  | [], [], _ => .cons hv .nil
  | [], _ :: _, h => nomatch h
  | _ :: _, [], h => nomatch h
  | u :: vs, s :: ts, h => by
    cases h with
    | cons h1 h2 => exact .cons h1 (dpt_app hv h2)
theorem dpt_perm {H : Hp} {vs' vs : List V} (h : vs'.Perm vs) : ∀ ts : Ts, DpAll K H vs (ts.map tieD) → ∃ us : Ts, us.Perm ts ∧ DpAll K H vs' (us.map tieD) := by
  induction h with
  | nil => exact fun ts h => ⟨ts, .refl _, h⟩
  | cons x _ ih =>
    intro ts h
    cases ts with
    | nil => cases h
    | cons t ts =>
      cases h with
      | cons h1 h2 =>
        obtain ⟨us, p, q⟩ := ih ts h2
        exact ⟨t :: us, .cons t p, .cons h1 q⟩
  | swap x y l =>
    intro ts h
    cases ts with
    | nil => cases h
    | cons t ts =>
      cases h with
      | cons h1 h2 =>
        cases ts with
        | nil => cases h2
        | cons u ts =>
          cases h2 with
          | cons h3 h4 => exact ⟨u :: t :: ts, .swap _ _ _, .cons h3 (.cons h1 h4)⟩
  | trans _ _ ih1 ih2 =>
    intro ts h
    obtain ⟨us, p, q⟩ := ih2 ts h
    obtain ⟨ws, p', q'⟩ := ih1 us q
    exact ⟨ws, p'.trans p, q'⟩
theorem perm_rg {n : Nat} {ys : List V} (h : ys.Perm (rgV 0 (n : Int))) : ∃ nm : List Int, ys = nm.map V.int ∧ nm.Perm (rng n) := by
  let f : V → Int := fun v => match v with
    | .int i => i
    | _ => 0
  have e0 : rgV 0 (n : Int) = (rng n).map V.int := by
    unfold rgV rng
    rw [List.map_map]
    have : ((n : Int) - 0).toNat = n := by omega
    rw [this]
    refine List.map_congr_left fun i _ => ?_
    show V.int (0 + (i : Int)) = V.int (i : Int)
    rw [Int.zero_add]
  rw [e0] at h
  refine ⟨ys.map f, ?_, ?_⟩
  · rw [List.map_map]
    refine (List.map_id _).symm.trans (List.map_congr_left fun y hy => ?_)
    obtain ⟨i, _, rfl⟩ := List.mem_map.mp (h.mem_iff.mp hy)
    rfl
  · have := h.map f
    rw [List.map_map] at this
    have e1 : (rng n).map (f ∘ V.int) = rng n := (List.map_congr_left fun i _ => rfl).trans (List.map_id _)
    rwa [e1] at this
theorem rs_free {H H1 : Hp} {S l : Addr} (r : Rs (some S) H H1) (h : H1 l = none) : H l = none := by
  cases z : H l with
  | none => rfl
  | some o =>
    by_cases q : S = l
    · subst q
      obtain ⟨a, b, c, e⟩ := r.s1
      rw [h] at e
      cases e
    · rw [r.keep l o (fun z => q (Option.some.inj z)) z] at h
      cases h
theorem dpt_of {H : Hp} : ∀ {ys : List V} {ts : Ts}, ys.length = ts.length → (∀ (i : Nat) (y : V), ys[i]? = some y → ∃ p, y = .ref p ∧ SqT K H p ((rw_ (ts.getD i (0, 0))).map V.int)) → DpAll K H ys (ts.map tieD)
  | [], [], _, _ => .nil
  | [], _ :: _, h, _ => nomatch h
  | _ :: _, [], h, _ => nomatch h
  | y :: ys, t :: ts, h, q => by
    obtain ⟨p, rfl, hp⟩ := q 0 y rfl
    exact .cons (dp_tup hp) (dpt_of (by simpa using h) fun i z hz => q (i + 1) z hz)
def spWebD (K : PySem.W.Frag) : Sp := fun vs H Q _ => ∃ (S : Addr), vs = [.ref S, .int 5, .int 5] ∧ Sk H (some S) ∧ ∀ H' a ts n, Rs (some S) H H' → TiesT K H' a ts → Drawn ts n → 1 ≤ n → n ≤ 5 → ts ≠ [] → ts.length ≤ 10 → (ts.length : Int) + 1 - n ≤ 6 → Q (.ref a) H'
theorem ok__law_web_drawn {f : Addr} {fd : FuncData} (F : Fun K "_law_web_drawn" "_law_web_drawn" st__law_web_drawn f fd) (T : Txt K mg) : FnOk P w K mg base CX0 3 f fd ["jar", "most", "further"] (spWebD K) := by
  have c__law_pour : Cl P w K mg base 1 "_law_pour" spDrawn := cl__law_pour T
  have c__law_shuffled : Cl P w K mg base 2 "_law_shuffled" (spShuf K) := cl__law_shuffled T
  refine F.ok sc__law_web_drawn (fun vs H Q E h => ?_) (fun cdv A outer s H vs Q E hr h => ?_)
  · obtain ⟨S, rfl, _⟩ := h
    rfl
  · obtain ⟨S, rfl, hS, k⟩ := h
    refine ⟨_, (pss_cons (ps_par (i := 3) (j := 4) rfl sc__law_web_drawn.nd rfl rfl (by decide) rfl rfl (pa_cons (pe_op op_add pe_int (pe_f c__law_pour hr (by decide) rfl (pa_cons (pv 0) (pa_cons (pv 1) pa_nil)))) (pa_cons (pe_lst pa_nil) pa_nil)) (by with_unfolding_all rfl)) (pss_cons (ps_for PassesOwn.never rfl (pi_range2 rfl T.n_range (pa_cons pe_int (pa_cons (pv 3) pa_nil))) (pg_name (i := 5) sc__law_web_drawn.nd rfl (Or.inl rfl)) (pss_cons (ps_set (i := 6) sc__law_web_drawn.nd rfl (Or.inl rfl) (pe_f c__law_pour hr (by decide) rfl (pa_cons (pv 0) (pa_cons (pv 5) pa_nil)))) (pss_one (ps_expr (pe_bm PySem.F.plainAttrs_list PySem.F.slot_list_append PySem.F.type_list_append mt_append (pv 4) (pa_cons (pe_ifExp (pt_cmpR op_eq (pe_f c__law_pour hr (by decide) rfl (pa_cons (pv 0) (pa_cons pe_int pa_nil))) pe_int (nomark _)) (pe_tup (pa_cons (pv 5) (pa_cons (pv 6) pa_nil))) (pe_tup (pa_cons (pv 6) (pa_cons (pv 5) pa_nil)))) pa_nil)))))) (pss_cons (ps_for PassesOwn.never rfl (pi_range1 rfl T.n_range (pa_cons (pe_op op_add (pe_f c__law_pour hr (by decide) rfl (pa_cons (pv 0) (pa_cons (pe_op op_add (pv 2) pe_int) pa_nil))) (pe_callTy call_int1 (by rfl) T.n_int bo_int (pa_cons (pe_cmpR op_eq (pv 3) pe_int (nomark _)) pa_nil))) pa_nil)) (pg_name (i := 7) sc__law_web_drawn.nd rfl (Or.inl rfl)) (pss_cons (ps_set (i := 8) sc__law_web_drawn.nd rfl (Or.inl rfl) (pe_f c__law_pour hr (by decide) rfl (pa_cons (pv 0) (pa_cons (pv 3) pa_nil)))) (pss_one (ps_expr (pe_bm PySem.F.plainAttrs_list PySem.F.slot_list_append PySem.F.type_list_append mt_append (pv 4) (pa_cons (pe_tup (pa_cons (pv 8) (pa_cons (pe_f c__law_pour hr (by decide) rfl (pa_cons (pv 0) (pa_cons (pv 3) pa_nil))) pa_nil))) pa_nil)))))) (pss_cons (ps_set (i := 9) sc__law_web_drawn.nd rfl (Or.inr rfl) (pe_f c__law_shuffled hr (by decide) rfl (pa_cons (pv 0) (pa_cons (pe_listRg rfl (by rfl) T.n_list (prg_1 (by rfl) T.n_range (pv 3))) pa_nil)))) (pss_one (ps_ret (pe_callTy (kcall_tuple (K := K)) (by rfl) T.n_tuple bo_tuple (pa_cons (pe_lc (own := [("begin", 8), ("end", 10)]) rfl sc__law_web_drawn.nd (kpi_list (K := K) (pe_f c__law_shuffled hr (by decide) rfl (pa_cons (pv 0) (pa_cons (pv 4) pa_nil)))) (blkOk_by (N := nm__law_web_drawn) (sc := defScope st__law_web_drawn) (by decide +kernel)) (fun _ _ _ _ _ => (kpg_tup (K := K) (n := 2) rfl (pgs_cons (pg_name (i := 8) sc__law_web_drawn.nd rfl (by first | exact Or.inl rfl | exact Or.inr rfl)) (pgs_cons (pg_name (i := 10) sc__law_web_drawn.nd rfl (by first | exact Or.inl rfl | exact Or.inr rfl)) pgs_nil)))) (fun _ _ _ _ _ => pts_nil) (fun _ _ _ _ _ => (pe_tup (pa_cons (pe_ix (kix_list (K := K)) (pv 9) (pv 8) (fun _ _ => rfl)) (pa_cons (pe_ix (kix_list (K := K)) (pv 9) (pv 10) (fun _ _ => rfl)) pa_nil))))) pa_nil)))))))), ?_⟩
    refine ⟨.ref S, rfl, .int 5, rfl, S, _, rfl, hS, by decide, by decide, fun H1 r r1 a0 a1 => ⟨1, r, rfl, rfl, Nat.zero_le _, fun l hl => ⟨_, _, rfl, ?_⟩⟩⟩
    have hl0 : H l = none := rs_free r1 hl
    have nSl : S ≠ l := sk_ne hS hl0
    obtain ⟨m, rfl⟩ : ∃ m : Nat, r = (m : Int) := ⟨r.toNat, by omega⟩
    have s1 : Rs (some S) H (upd H1 l (.lst [])) := rs_mut r1 hl0
    have app : ∀ {G G1 : Hp} {vs : List V} {ts : Ts} {x y : Int} {p : Addr}, Rs (some S) H G → G l = some (.lst vs) → DpAll K G vs (ts.map tieD) → Rs (some S) G G1 → G1 p = none →
        Rs (some S) H (upd (upd G1 p (.tup [.int x, .int y])) l (.lst (vs ++ [.ref p]))) ∧ upd (upd G1 p (.tup [.int x, .int y])) l (.lst (vs ++ [.ref p])) l = some (.lst (vs ++ [.ref p])) ∧ DpAll K (upd (upd G1 p (.tup [.int x, .int y])) l (.lst (vs ++ [.ref p]))) (vs ++ [.ref p]) ((ts ++ [(x, y)]).map tieD) := fun {G G1 vs ts x y p} g d dp g1 hp => by
      have d1 : G1 l = some (.lst vs) := g1.keep _ _ (fun q => nSl (Option.some.inj q)) d
      have g2 : Rs (some S) G (upd G1 p (.tup [.int x, .int y])) := g1.tr (.same g1.s1 (new_same hp))
      have d2 : upd G1 p (.tup [.int x, .int y]) l = some (.lst vs) := (new_same hp) _ _ d1
      refine ⟨rs_mut (g.tr g2) hl0, upd_same, dpt_mut d2 (dpt_app (dp_tup (ns := [x, y]) (tup_of upd_same)) (dpt_rs g2 dp))⟩
    have em : (1 + (m : Int) - 1).toNat = m := by omega
    refine ⟨.int (1 + (m : Int)), rfl, 1, 1 + (m : Int), rfl, ⟨by omega, by omega, by omega, by omega⟩, ?_⟩
    rw [em]
    refine for_range (lo := 1) (n := m) (fun i σ H' => Rs (some S) H H' ∧ ∃ (vs : List V) (ts : Ts), H' l = some (.lst vs) ∧ DpAll K H' vs (ts.map tieD) ∧ ts.length = i ∧ Drawn ts (i + 1) ∧ ∃ x5 x6, σ = [some (.ref S), some (.int 5), some (.int 5), some (.int (1 + (m : Int))), some (.ref l), x5, x6, none, none, none, none]) ⟨s1, [], [], upd_same, .nil, rfl, drawn_one, none, none, rfl⟩ (fun i σ H' hi p => ?_) fun σ H' p => ?_
    · obtain ⟨s2, vs, ts, d, dp, tl, dr, x5, x6, rfl⟩ := p
      have vl := ties_len dp
      refine ⟨.ref S, rfl, .int (1 + (i : Int)), rfl, S, _, rfl, s2.s1, by omega, by omega, fun H2 u r2 b0 b1 => ?_⟩
      have d2 : H2 l = some (.lst vs) := r2.keep _ _ (fun q => nSl (Option.some.inj q)) d
      refine ⟨.ref l, rfl, .inl ⟨rfl, _, SqL.of d2⟩, .ref S, rfl, S, _, rfl, r2.s1, by omega, by omega, fun H3 v r3 c0 c1 => ?_⟩
      refine ⟨rfl, _, rfl, ite2 (fun _ => ?_) fun _ => ?_⟩
      · refine ⟨.int (1 + (i : Int)), rfl, .int u, rfl, by show 2 ≤ sizeLine; decide, fun p hp => ?_⟩
        obtain ⟨q1, q2, q3⟩ := app (x := 1 + (i : Int)) (y := u) s2 d dp (r2.tr r3) hp
        refine ⟨l, vs, _, rfl, rfl, ?_, small1000 (by omega), q1, vs ++ [.ref p], ts ++ [(1 + (i : Int), u)], q2, q3, by rw [List.length_append, tl]; rfl, dr.leaf b0 (by omega) (.inl (by congr 1; omega)), _, _, rfl⟩
        exact (new_same hp) _ _ ((r2.tr r3).keep _ _ (fun q => nSl (Option.some.inj q)) d)
      · refine ⟨.int u, rfl, .int (1 + (i : Int)), rfl, by show 2 ≤ sizeLine; decide, fun p hp => ?_⟩
        obtain ⟨q1, q2, q3⟩ := app (x := u) (y := 1 + (i : Int)) s2 d dp (r2.tr r3) hp
        refine ⟨l, vs, _, rfl, rfl, ?_, small1000 (by omega), q1, vs ++ [.ref p], ts ++ [(u, 1 + (i : Int))], q2, q3, by rw [List.length_append, tl]; rfl, dr.leaf b0 (by omega) (.inr (by congr 1; omega)), _, _, rfl⟩
        exact (new_same hp) _ _ ((r2.tr r3).keep _ _ (fun q => nSl (Option.some.inj q)) d)
    · obtain ⟨s2, vs, ts, d, dp, tl, dr, x5, x6, rfl⟩ := p
      refine ⟨.ref S, rfl, .int 5, rfl, _, _, rfl, rfl, S, _, rfl, s2.s1, by decide, by decide, fun H2 c r2 b0 b1 => ?_⟩
      have b1 : c < 6 := b1
      refine es_intB (es_eqI (es_vV rfl) es_cV) H2 (Same.refl _) _ fun v H3 e3 ev => ?_
      subst ev
      refine ⟨_, _, rfl, rfl, _, rfl, ?_⟩
      have s3 : Rs (some S) H H3 := (s2.tr r2).tr (.same r2.s1 e3)
      have d3 : H3 l = some (.lst vs) := e3 _ _ (r2.keep _ _ (fun q => nSl (Option.some.inj q)) d)
      have dp3 : DpAll K H3 vs (ts.map tieD) := dpt_rs (.same r2.s1 e3) (dpt_rs r2 dp)
      have hone : ∀ z : Bool, z = decide (1 + (m : Int) = 1) → 0 ≤ (c + if z = true then (1 : Int) else 0) ∧ (c + if z = true then (1 : Int) else 0) ≤ 6 ∧ (m = 0 → 1 ≤ (c + if z = true then (1 : Int) else 0)) ∧ (m ≠ 0 → (c + if z = true then (1 : Int) else 0) ≤ 5) := fun z hz => by
        by_cases hm : m = 0
        · have : z = true := by rw [hz]; exact decide_eq_true (by omega)
          subst this
          refine ⟨?_, ?_, fun _ => ?_, fun q => absurd hm q⟩ <;> simp only [if_true] <;> omega
        · have : z = false := by rw [hz]; exact decide_eq_false (by omega)
          subst this
          refine ⟨?_, ?_, fun q => absurd q hm, fun q => ?_⟩ <;> simp only [Bool.false_eq_true, if_false] <;> omega
      obtain ⟨w0, w1, w2, w3⟩ := hone _ rfl
      generalize (c + if decide (1 + (m : Int) = 1) = true then (1 : Int) else 0) = N at w0 w1 w2 w3 ⊢
      refine ⟨by omega, by omega, for_range (lo := 0) (n := N.toNat) (fun i σ H' => Rs (some S) H H' ∧ ∃ (vs : List V) (ts : Ts), H' l = some (.lst vs) ∧ DpAll K H' vs (ts.map tieD) ∧ ts.length = m + i ∧ Drawn ts (m + 1) ∧ ∃ x7 x8, σ = [some (.ref S), some (.int 5), some (.int 5), some (.int (1 + (m : Int))), some (.ref l), x5, x6, x7, x8, none, none]) ⟨s3, vs, ts, d3, dp3, by omega, dr, none, none, rfl⟩ (fun i σ H' hi p => ?_) fun σ H' p => ?_⟩
      · obtain ⟨s2, vs, ts, d, dp, tl, dr, x7, x8, rfl⟩ := p
        have vl := ties_len dp
        refine ⟨.ref S, rfl, .int (1 + (m : Int)), rfl, S, _, rfl, s2.s1, by omega, by omega, fun H2 u r2 b0 b1 => ?_⟩
        have d2 : H2 l = some (.lst vs) := r2.keep _ _ (fun q => nSl (Option.some.inj q)) d
        refine ⟨.ref l, rfl, .inl ⟨rfl, _, SqL.of d2⟩, .int u, rfl, .ref S, rfl, .int (1 + (m : Int)), rfl, S, _, rfl, r2.s1, by omega, by omega, fun H3 v r3 c0 c1 => ?_⟩
        refine ⟨by show 2 ≤ sizeLine; decide, fun p hp => ?_⟩
        obtain ⟨q1, q2, q3⟩ := app (x := u) (y := v) s2 d dp (r2.tr r3) hp
        refine ⟨l, vs, _, rfl, rfl, ?_, small1000 (by omega), q1, vs ++ [.ref p], ts ++ [(u, v)], q2, q3, by rw [List.length_append, tl]; rfl, dr.more b0 (by omega) c0 (by omega), _, _, rfl⟩
        exact (new_same hp) _ _ ((r2.tr r3).keep _ _ (fun q => nSl (Option.some.inj q)) d)
      · obtain ⟨s4, vs, ts, d4, dp4, tl, dr, x7, x8, rfl⟩ := p
        have vl := ties_len dp4
        refine ⟨.ref S, rfl, .int (1 + (m : Int)), rfl, _, rfl, ⟨by omega, by omega, by omega, by omega, by omega⟩, fun g hg => ?_⟩
        have s5 : Rs (some S) H (upd H' g (.lst (rgV 0 (1 + (m : Int))))) := s4.tr (rs_new s4.s1 hg)
        have nSg : S ≠ g := sk_ne s4.s1 hg
        refine ⟨S, g, _, rfl, s5.s1, nSg, lst_of upd_same, by rw [rgV_length]; omega, fun H5 nl nv r5 hnl dnl hperm => ?_⟩
        have hm1 : (1 : Int) + (m : Int) = ((m + 1 : Nat) : Int) := by omega
        rw [hm1] at hperm
        obtain ⟨nm, rfl, hnm⟩ := perm_rg hperm
        have s6 := s5.tr r5
        have d6 : H5 l = some (.lst vs) := r5.keep _ _ (fun q => nSl (Option.some.inj q)) ((new_same hg) _ _ d4)
        have dp6 : DpAll K H5 vs (ts.map tieD) := dpt_rs r5 (dpt_rs (rs_new s4.s1 hg) dp4)
        have nSn : S ≠ nl := by
          refine sk_ne s5.s1 hnl
        refine ⟨.ref S, rfl, .ref l, rfl, S, l, vs, rfl, s6.s1, nSl, lst_of d6, by omega, fun H7 q us r7 hq dq hp => ?_⟩
        obtain ⟨ts2, hp2, dp2⟩ := dpt_perm hp ts (dpt_rs r7 dp6)
        have dr2 := dr.perm hp2
        have ul := ties_len dp2
        have t2l := hp2.length_eq
        have d7 : H7 nl = some (.lst (nm.map V.int)) := r7.keep _ _ (fun q => nSn (Option.some.inj q)) dnl
        have nml : nm.length = m + 1 := by rw [hnm.length_eq]; unfold rng; simp
        have f1 : ∀ t ∈ ts2, t.1.toNat < nm.length ∧ t.2.toNat < nm.length ∧ 0 ≤ t.1 ∧ 0 ≤ t.2 := fun t ht => by
          have := dr2.rg t ht
          omega
        have nmat : ∀ (x : Int), 0 ≤ x → x.toNat < nm.length → atI (nm.map V.int) x = some (.int (nm.getD x.toNat 0)) := fun x h0 h1 => by
          have h := atI_nat (xs := nm.map V.int) (j := x.toNat) (v := .int (nm.getD x.toNat 0)) (by rw [List.getElem?_map, List.getD_eq_getElem?_getD, List.getElem?_eq_getElem h1]; rfl)
          rwa [Int.toNat_of_nonneg h0] at h
        refine ⟨q, rfl, ⟨us, lst_of dq⟩, ?_⟩
        refine lcN_core (J := Itl K q) (xs := us) (te := tTup (tCons (tOp (rIxL K) (tVar 9) (tVar 8)) (tCons (tOp (rIxL K) (tVar 9) (tVar 10)) tNil))) (Q := fun v G => rTupOf K [v] G Q) (vs := [8, 10]) (σ := [some (.ref S), some (.int 5), some (.int 5), some (.int (1 + (m : Int))), some (.ref l), x5, x6, x7, x8, some (.ref nl), none]) (g := gTup K 2 (gCons (gName 8) (gCons (gName 10) gNil))) (P := fun i y H => ∃ p, y = .ref p ∧ SqT K H p ((rw_ (nm.getD (ts2.getD i (0, 0)).1.toNat 0, nm.getD (ts2.getD i (0, 0)).2.toNat 0)).map V.int)) (fun i => [some (.ref S), some (.int 5), some (.int 5), some (.int (1 + (m : Int))), some (.ref l), x5, x6, x7, some (.int (ts2.getD i (0, 0)).1), some (.ref nl), some (.int (ts2.getD i (0, 0)).2)]) (walk_listS (lst_of dq)) (fun i y G G1 e ⟨p, ey, hp⟩ => ⟨p, ey, same_tup e hp⟩) (fun i y G D zs o d ⟨p, ey, hp⟩ => ⟨p, ey, tup_mutl d hp⟩) (by omega) (fun i x hx G e R hR => ?_) (fun i hi => rfl) (fun i x hx => ?_) fun D ys G e dD nD yl hy => ?_
        · obtain ⟨p, rfl, hp⟩ := dpa_at dp2 hx
          exact ⟨p, _, rfl, same_tup e hp, rfl, _, _, rfl, _, _, rfl, rfl, hR⟩
        · have hlt : i < ts2.length := by
            have := (List.getElem?_eq_some_iff.mp hx).1
            omega
          have hti : ts2.getD i (0, 0) ∈ ts2 := by
            rw [List.getD_eq_getElem?_getD, List.getElem?_eq_getElem hlt]
            exact List.getElem_mem _
          obtain ⟨g1, g2, g3, g4⟩ := f1 _ hti
          exact fun G e R r => ⟨.ref nl, rfl, _, rfl, nl, _, _, _, rfl, rfl, SqL.of (e _ _ d7), nmat _ g3 g1, .ref nl, rfl, _, rfl, nl, _, _, _, rfl, rfl, SqL.of (e _ _ d7), nmat _ g4 g2, by show 2 ≤ sizeLine; decide, fun p hp => r _ _ (new_same hp) ⟨p, rfl, tup_of upd_same⟩⟩
        · have s8 : Rs (some S) H G := (s6.tr r7).tr (.same r7.s1 e)
          have dr3 := dr2.renamed hnm
          refine ⟨D, ys, rfl, .inl ⟨lst_of dD, fun p hp' => k _ p _ (m + 1) (s8.tr (.same s8.s1 (new_same hp'))) ⟨ys, tup_of upd_same, dpa_same (new_same hp') _ _ (dpt_of ?_ fun i y hi => ?_)⟩ dr3 (by omega) (by omega) ?_ ?_ ?_⟩⟩
          · rw [List.length_map]; omega
          · obtain ⟨p, ey, hp⟩ := hy i y hi
            have hlt : i < ts2.length := by
              have := (List.getElem?_eq_some_iff.mp hi).1
              omega
            refine ⟨p, ey, ?_⟩
            have e2 : ts2.getD i (0, 0) = ts2[i] := by rw [List.getD_eq_getElem?_getD, List.getElem?_eq_getElem hlt]; rfl
            rw [e2] at hp
            rw [List.getD_eq_getElem?_getD, List.getElem?_map, List.getElem?_eq_getElem hlt]
            exact hp
          · intro z
            have := congrArg List.length z
            rw [List.length_map, List.length_nil] at this
            omega
          · rw [List.length_map]; omega
          · rw [List.length_map]; omega
theorem cl__law_web_drawn (T : Txt K mg) : Cl P w K mg base 3 "_law_web_drawn" (spWebD K) := by
  obtain ⟨f, fd, F, hm, hb⟩ := T.f__law_web_drawn
  exact cl_of (ok__law_web_drawn F T) hm F.kp hb
/-! roads -/
def Road (ts : Ts) : Int → List Int → Int → Prop
  | p, [], e => p = e
  | p, t :: r, e => IsDir ts t ∧ beg ts t = p ∧ Road ts (beg ts (-t)) r e
theorem road_app {ts : Ts} : ∀ {r1 r2 : List Int} {p m e : Int}, Road ts p r1 m → Road ts m r2 e → Road ts p (r1 ++ r2) e
  | [], _, _, _, _, h, g => by
    have h : _ = _ := h
    subst h
    exact g
  | _ :: r1, _, _, _, _, h, g => ⟨h.1, h.2.1, road_app (r1 := r1) h.2.2 g⟩
theorem road_cut {ts : Ts} : ∀ {r1 r2 : List Int} {p e : Int}, Road ts p (r1 ++ r2) e → ∃ m, Road ts p r1 m ∧ Road ts m r2 e
  | [], _, p, _, h => ⟨p, rfl, h⟩
  | _ :: r1, _, _, _, h => by
    obtain ⟨m, h1, h2⟩ := road_cut (r1 := r1) h.2.2
    exact ⟨m, ⟨h.1, h.2.1, h1⟩, h2⟩
theorem road_one {ts : Ts} {t : Int} (h : IsDir ts t) : Road ts (beg ts t) [t] (beg ts (-t)) := ⟨h, rfl, rfl⟩
theorem road_dir {ts : Ts} : ∀ {r : List Int} {p e : Int}, Road ts p r e → ∀ t ∈ r, IsDir ts t
  | _ :: r, _, _, h, t, ht => by
    rcases List.mem_cons.mp ht with rfl | ht
    · exact h.1
    · exact road_dir h.2.2 t ht
theorem road_last {ts : Ts} {r : List Int} {t p e : Int} (h : Road ts p (r ++ [t]) e) : e = beg ts (-t) := by
  obtain ⟨m, _, h2⟩ := road_cut h
  exact h2.2.2.symm
theorem beg_in {ts : Ts} {n : Nat} (d : Drawn ts n) {t : Int} (h : IsDir ts t) : 0 ≤ beg ts t ∧ beg ts t < (n : Int) := by
  obtain ⟨h0, h1, h2⟩ := h
  have at_ : ∀ i, i < ts.length → ts.getD i (0, 0) ∈ ts := fun i hi => by
    rw [List.getD_eq_getElem?_getD, List.getElem?_eq_getElem hi]
    exact List.getElem_mem _
  unfold beg
  split
  · have := d.rg _ (at_ (t - 1).toNat (by omega))
    exact ⟨this.1, this.2.1⟩
  · have := d.rg _ (at_ (0 - t - 1).toNat (by omega))
    exact ⟨this.2.2.1, this.2.2.2⟩
theorem road_in {ts : Ts} {n : Nat} (d : Drawn ts n) : ∀ {r : List Int} {p e : Int}, Road ts p r e → 0 ≤ p → p < (n : Int) → 0 ≤ e ∧ e < (n : Int)
  | [], _, _, h, h0, h1 => by
    have h : _ = _ := h
    subst h
    exact ⟨h0, h1⟩
  | _ :: r, _, _, h, _, _ => road_in d (r := r) h.2.2 (beg_in d h.1.neg).1 (beg_in d h.1.neg).2
theorem mem_begs {ts : Ts} {p t : Int} : t ∈ begs ts p ↔ IsDir ts t ∧ beg ts t = p := by
  unfold begs
  rw [List.mem_filter, mem_dirs, decide_eq_true_iff]
  rfl
theorem beg_tie {ts : Ts} {t : Int × Int} (h : t ∈ ts) : ∃ i : Int, IsDir ts i ∧ beg ts i = t.1 ∧ beg ts (-i) = t.2 := by
  obtain ⟨j, hj, rfl⟩ := List.mem_iff_getElem.mp h
  refine ⟨(j : Int) + 1, ⟨by omega, by omega, by omega⟩, ?_, ?_⟩
  · unfold beg
    rw [if_pos (by omega), show ((j : Int) + 1 - 1).toNat = j by omega, List.getD_eq_getElem?_getD, List.getElem?_eq_getElem hj]
    rfl
  · unfold beg
    rw [if_neg (by omega), show (0 - -((j : Int) + 1) - 1).toNat = j by omega, List.getD_eq_getElem?_getD, List.getElem?_eq_getElem hj]
    rfl
theorem begs_ne {ts : Ts} {n : Nat} (d : Drawn ts n) (ht : ts ≠ []) {p : Int} (h0 : 0 ≤ p) (h1 : p < (n : Int)) : begs ts p ≠ [] := fun no => by
  have hno : ∀ t ∈ ts, t.1 ≠ p ∧ t.2 ≠ p := fun t h => by
    obtain ⟨i, hi, e1, e2⟩ := beg_tie h
    refine ⟨fun q => ?_, fun q => ?_⟩
    · have : i ∈ begs ts p := mem_begs.mpr ⟨hi, e1.trans q⟩
      rw [no] at this
      cases this
    · have : -i ∈ begs ts p := mem_begs.mpr ⟨hi.neg, e2.trans q⟩
      rw [no] at this
      cases this
  obtain ⟨t, u, rfl⟩ := List.exists_cons_of_ne_nil ht
  have hm : t ∈ t :: u := List.mem_cons_self
  have hr := d.rg t hm
  exact d.conn.any (S := fun q => q ≠ p) hr.1 hr.2.1 (hno t hm).1 (fun s hs => ⟨fun _ => (hno s hs).2, fun _ => (hno s hs).1⟩) p h0 h1 rfl
theorem begs_len (ts : Ts) (p : Int) : (begs ts p).length ≤ ts.length + ts.length := by
  unfold begs
  refine Nat.le_trans (List.length_filter_le _ _) ?_
  rw [dirs_len]
  exact Nat.le_refl _
def spWalk (K : PySem.W.Frag) : Sp := fun vs H Q _ => ∃ (S a : Addr) (ts : Ts) (n : Nat) (p m : Int), vs = [.ref S, .ref a, .int p, .int m] ∧ Sk H (some S) ∧ TiesT K H a ts ∧ Drawn ts n ∧ ts ≠ [] ∧ ts.length ≤ 100 ∧ 0 ≤ p ∧ p < (n : Int) ∧ 0 ≤ m ∧ m ≤ 500 ∧
  ∀ H' q row e, Rs (some S) H H' → SqT K H' q (row.map V.int) → Road ts p row e → (row.length : Int) = m → Q (.ref q) H'
theorem ok__law_walk {f : Addr} {fd : FuncData} (F : Fun K "_law_walk" "_law_walk" st__law_walk f fd) (T : Txt K mg) : FnOk P w K mg base CX0 3 f fd ["jar", "ties", "point", "many"] (spWalk K) := by
  have c__law_pour : Cl P w K mg base 1 "_law_pour" spDrawn := cl__law_pour T
  have c__law_beginnings : Cl P w K mg base 2 "_law_beginnings" (spBegs K) := cl__law_beginnings T
  have c__law_end : Cl P w K mg base 2 "_law_end" (spEnd K) := cl__law_end T
  refine F.ok sc__law_walk (fun vs H Q E h => ?_) (fun cdv A outer s H vs Q E hr h => ?_)
  · obtain ⟨S, a, ts, n, p, m, rfl, _⟩ := h
    rfl
  · obtain ⟨S, a, ts, n, p, m, rfl, hS, ht, dr, hne, hz, p0, p1, m0, m1, k⟩ := h
    refine ⟨_, (pss_cons (ps_set (i := 4) sc__law_walk.nd rfl (Or.inl rfl) (pe_lst pa_nil)) (pss_cons (ps_for PassesOwn.never rfl (pi_range1 rfl T.n_range (pa_cons (pv 3) pa_nil)) (pg_name (i := 5) sc__law_walk.nd rfl (Or.inl rfl)) (pss_cons (ps_set (i := 6) sc__law_walk.nd rfl (Or.inl rfl) (pe_f c__law_beginnings hr (by decide) rfl (pa_cons (pv 1) (pa_cons (pv 2) pa_nil)))) (pss_cons (ps_set (i := 7) sc__law_walk.nd rfl (Or.inl rfl) (pe_ix (kix_tup (K := K)) (pv 6) (pe_f c__law_pour hr (by decide) rfl (pa_cons (pv 0) (pa_cons (pe_callB (kcall_len (K := K)) (by rfl) T.n_len bo_len (pa_cons (pv 6) pa_nil)) pa_nil))) (fun _ _ => rfl))) (pss_cons (ps_expr (pe_bm PySem.F.plainAttrs_list PySem.F.slot_list_append PySem.F.type_list_append mt_append (pv 4) (pa_cons (pv 7) pa_nil))) (pss_one (ps_set (i := 2) sc__law_walk.nd rfl (Or.inl rfl) (pe_f c__law_end hr (by decide) rfl (pa_cons (pv 1) (pa_cons (pv 7) pa_nil))))))))) (pss_one (ps_ret (pe_callTy (kcall_tuple (K := K)) (by rfl) T.n_tuple bo_tuple (pa_cons (pv 4) pa_nil)))))), ?_⟩
    refine ⟨Nat.zero_le _, fun l hl => ?_⟩
    have nSl := sk_ne hS hl
    refine ⟨.int m, rfl, m, rfl, by omega, by omega, for_range (lo := 0) (n := m.toNat) (fun i σ H' => Rs (some S) H H' ∧ ∃ (es : List Int) (q : Int), H' l = some (.lst (es.map V.int)) ∧ es.length = i ∧ Road ts p es q ∧ 0 ≤ q ∧ q < (n : Int) ∧ ∃ x5 x6 x7, σ = [some (.ref S), some (.ref a), some (.int q), some (.int m), some (.ref l), x5, x6, x7]) ⟨rs_new hS hl, [], p, upd_same, rfl, rfl, p0, p1, none, none, none, rfl⟩ (fun i σ H' hi p' => ?_) fun σ H' p' => ?_⟩
    · obtain ⟨s1, es, q, d, el, rd, q0, q1, x5, x6, x7, rfl⟩ := p'
      refine ⟨.ref a, rfl, .int q, rfl, a, ts, q, rfl, ties_rs s1 ht, by omega, fun H1 b e1 hb => ?_⟩
      have bl := begs_len ts q
      have bp : 0 < (begs ts q).length := List.length_pos_iff.mpr (begs_ne dr hne q0 q1)
      refine ⟨.ref b, rfl, .ref S, rfl, .ref b, rfl, b, _, rfl, .inr hb, S, _, rfl, s1.s1.same e1, by rw [List.length_map]; omega, by rw [List.length_map]; omega, fun H2 u r2 u0 u1 => ?_⟩
      rw [List.length_map] at u1
      obtain ⟨j, rfl⟩ : ∃ j : Nat, u = (j : Int) := ⟨u.toNat, by omega⟩
      have hj : j < (begs ts q).length := by omega
      have s2 : Rs (some S) H H2 := (s1.tr (.same s1.s1 e1)).tr r2
      have d2 : H2 l = some (.lst (es.map V.int)) := r2.keep _ _ (fun q => nSl (Option.some.inj q)) (e1 _ _ d)
      obtain ⟨hd, hb1⟩ := mem_begs.mp (List.getElem_mem hj)
      refine ⟨b, _, _, .int (begs ts q)[j], rfl, rfl, r2.tup hb, atI_nat (by rw [List.getElem?_map, List.getElem?_eq_getElem hj]; rfl), ?_⟩
      generalize (begs ts q)[j] = t at hd hb1
      refine ⟨.ref l, rfl, .inl ⟨rfl, _, SqL.of d2⟩, .int t, rfl, l, _, _, rfl, rfl, d2, small1000 (by rw [List.length_map]; omega), ?_⟩
      have s3 : Rs (some S) H (upd H2 l (.lst (es.map V.int ++ [.int t]))) := rs_mut s2 hl
      refine ⟨.ref a, rfl, .int t, rfl, a, ts, t, rfl, ties_rs s3 ht, hd, fun H3 e3 => ?_⟩
      refine ⟨s3.tr (.same s3.s1 e3), es ++ [t], beg ts (-t), ?_, by rw [List.length_append, el]; rfl, road_app rd ⟨hd, hb1, rfl⟩, (beg_in dr hd.neg).1, (beg_in dr hd.neg).2, _, _, _, rfl⟩
      rw [List.map_append]
      exact e3 _ _ upd_same
    · obtain ⟨s1, es, q, d, el, rd, q0, q1, x5, x6, x7, rfl⟩ := p'
      exact ⟨.ref l, rfl, l, _, rfl, .inl ⟨lst_of d, fun g hg => k _ g es q (s1.tr (.same s1.s1 (new_same hg))) (tup_of upd_same) rd (by omega)⟩⟩
theorem cl__law_walk (T : Txt K mg) : Cl P w K mg base 3 "_law_walk" (spWalk K) := by
  obtain ⟨f, fd, F, hm, hb⟩ := T.f__law_walk
  exact cl_of (ok__law_walk F T) hm F.kp hb
/-! opposites put in -/
theorem road_puff {ts : Ts} {r : List Int} {p e t : Int} {k : Nat} {m : Int} (h : Road ts p (r.take k) m) (g : Road ts m (r.drop k) e) (ht : IsDir ts t) (hb : beg ts t = m) : Road ts p (r.take k ++ [t, -t] ++ r.drop k) e ∧ Fr.red (r.take k ++ [t, -t] ++ r.drop k) = Fr.red r := by
  subst hb
  refine ⟨road_app (road_app h ⟨ht, rfl, ht.neg, rfl, by show beg ts (- -t) = _; rw [Int.neg_neg]⟩) g, ?_⟩
  rw [List.append_assoc]
  show Fr.red (r.take k ++ t :: -t :: r.drop k) = _
  rw [Fr.red_strike _ _ _ _ (show t = - -t by omega), List.take_append_drop]
def spPuff (K : PySem.W.Frag) : Sp := fun vs H Q _ => ∃ (S a r : Addr) (ts : Ts) (n : Nat) (row : List Int) (p e : Int), vs = [.ref S, .ref a, .ref r, .int p] ∧ Sk H (some S) ∧ TiesT K H a ts ∧ Drawn ts n ∧ ts ≠ [] ∧ ts.length ≤ 100 ∧ 0 ≤ p ∧ p < (n : Int) ∧ SqT K H r (row.map V.int) ∧ Road ts p row e ∧ row.length ≤ 500 ∧
  ∀ H' q row', Rs (some S) H H' → SqT K H' q (row'.map V.int) → Road ts p row' e → Fr.red row' = Fr.red row → row'.length ≤ row.length + 8 → row' ≠ [] → Q (.ref q) H'
theorem es_t2 {σ : L2.St} {H : Hp} {ta tb : TE} {i j : Int} (ha : EvS ta σ H (IsV (.int i))) (hb : EvS tb σ H (IsV (.int j))) : EvS (tTup (tCons ta (tCons tb tNil))) σ H (IsI K [i, j]) := fun H1 e Q q =>
  ha H1 e _ fun v H2 e2 ev => hb H2 (Same.trans e e2) _ fun u H3 e3 eu => by
    subst ev
    subst eu
    exact ⟨by show 2 ≤ sizeLine; decide, fun p hp => q _ _ (Same.trans (Same.trans e2 e3) (new_same hp)) ⟨p, rfl, tup_of upd_same⟩⟩
theorem ok__law_puffed {f : Addr} {fd : FuncData} (F : Fun K "_law_puffed" "_law_puffed" st__law_puffed f fd) (T : Txt K mg) : FnOk P w K mg base CX0 3 f fd ["jar", "ties", "road", "start"] (spPuff K) := by
  have c__law_pour : Cl P w K mg base 1 "_law_pour" spDrawn := cl__law_pour T
  have c__law_beginnings : Cl P w K mg base 2 "_law_beginnings" (spBegs K) := cl__law_beginnings T
  have c__law_end : Cl P w K mg base 2 "_law_end" (spEnd K) := cl__law_end T
  refine F.ok sc__law_puffed (fun vs H Q E h => ?_) (fun cdv A outer s H vs Q E hr h => ?_)
  · obtain ⟨S, a, r, ts, n, row, p, e, rfl, _⟩ := h
    rfl
  · obtain ⟨S, a, r, ts, n, row, p, e, rfl, hS, ht, dr, hne, hz, p0, p1, hrow, rd, hrl, k⟩ := h
    refine ⟨_, (pss_cons (ps_set (i := 4) sc__law_puffed.nd rfl (Or.inl rfl) (pv 2)) (pss_cons (ps_for PassesOwn.never rfl (pi_range1 rfl T.n_range (pa_cons (pe_op op_add pe_int (pe_f c__law_pour hr (by decide) rfl (pa_cons (pv 0) (pa_cons pe_int pa_nil)))) pa_nil)) (pg_name (i := 5) sc__law_puffed.nd rfl (Or.inl rfl)) (pss_cons (ps_set (i := 6) sc__law_puffed.nd rfl (Or.inl rfl) (pe_f c__law_pour hr (by decide) rfl (pa_cons (pv 0) (pa_cons (pe_op op_add (pe_callB (kcall_len (K := K)) (by rfl) T.n_len bo_len (pa_cons (pv 4) pa_nil)) pe_int) pa_nil)))) (pss_cons (ps_set (i := 7) sc__law_puffed.nd rfl (Or.inl rfl) (pe_ifExp (pt_cmpR op_eq (pv 6) pe_int (nomark _)) (pv 3) (pe_f c__law_end hr (by decide) rfl (pa_cons (pv 1) (pa_cons (pe_ix (kix_tup (K := K)) (pv 4) (pe_op op_sub (pv 6) pe_int) (fun _ _ => rfl)) pa_nil))))) (pss_cons (ps_set (i := 8) sc__law_puffed.nd rfl (Or.inl rfl) (pe_f c__law_beginnings hr (by decide) rfl (pa_cons (pv 1) (pa_cons (pv 7) pa_nil)))) (pss_cons (ps_set (i := 9) sc__law_puffed.nd rfl (Or.inl rfl) (pe_ix (kix_tup (K := K)) (pv 8) (pe_f c__law_pour hr (by decide) rfl (pa_cons (pv 0) (pa_cons (pe_callB (kcall_len (K := K)) (by rfl) T.n_len bo_len (pa_cons (pv 8) pa_nil)) pa_nil))) (fun _ _ => rfl))) (pss_one (ps_set (i := 4) sc__law_puffed.nd rfl (Or.inl rfl) (pe_op (kop_catA (K := K)) (pe_op (kop_catA (K := K)) (pe_slice (ksl_tupA (K := K)) (pv 4) po_none (po_some (pv 6))) (pe_tup (pa_cons (pv 9) (pa_cons (pe_op op_sub pe_int (pv 9)) pa_nil)))) (pe_slice (ksl_tupA (K := K)) (pv 4) (po_some (pv 6)) po_none))))))))) (pss_one (ps_ret (pv 4))))), ?_⟩
    refine ⟨.ref r, rfl, .ref S, rfl, S, _, rfl, hS, by decide, by decide, fun H1 c r1 c0 c1 => ⟨1, c, rfl, rfl, _, rfl, by omega, by omega, ?_⟩⟩
    refine for_range (lo := 0) (n := (1 + c).toNat) (fun i σ H' => Rs (some S) H H' ∧ ∃ (q : Addr) (es : List Int), SqT K H' q (es.map V.int) ∧ es.length = row.length + 2 * i ∧ Road ts p es e ∧ Fr.red es = Fr.red row ∧ ∃ x5 x6 x7 x8 x9, σ = [some (.ref S), some (.ref a), some (.ref r), some (.int p), some (.ref q), x5, x6, x7, x8, x9]) ⟨r1, r, row, r1.tup hrow, rfl, rd, rfl, none, none, none, none, none, rfl⟩ (fun i σ H' hi p' => ?_) fun σ H' p' => ?_
    · obtain ⟨s1, q, es, hq, el, rde, red, x5, x6, x7, x8, x9, rfl⟩ := p'
      have hc : c < 4 := c1
      refine ⟨.ref S, rfl, .ref q, rfl, q, _, rfl, .inr hq, _, _, rfl, rfl, S, _, rfl, s1.s1, by rw [List.length_map]; omega, by rw [List.length_map]; omega, fun H2 u r2 u0 u1 => ?_⟩
      rw [List.length_map] at u1
      obtain ⟨j, rfl⟩ : ∃ j : Nat, u = (j : Int) := ⟨u.toNat, by omega⟩
      have hj : j ≤ es.length := by omega
      have s2 := s1.tr r2
      have hq2 := r2.tup hq
      obtain ⟨m, g1, g2⟩ := road_cut (r1 := es.take j) (r2 := es.drop j) (by rw [List.take_append_drop]; exact rde)
      have hm := road_in dr g1 p0 p1
      refine asg_seq (P := IsV (.int m)) (es_if (eb_test (es_eqI (es_vV rfl) es_cV)) (fun hb => ?_) fun hb => ?_) fun v H3 e3 ev => ?_
      · have hb : (j : Int) = 0 := of_decide_eq_true hb
        have : j = 0 := by omega
        subst this
        have g1 : p = m := g1
        subst g1
        exact es_vV rfl
      · have hb : ¬ (j : Int) = 0 := of_decide_eq_false hb
        have hj1 : j - 1 < es.length := by omega
        have et : es.take j = es.take (j - 1) ++ [es[j - 1]] := by
          rw [show es.take j = es.take (j - 1 + 1) by congr 1; omega, List.take_succ, List.getElem?_eq_getElem hj1]
          rfl
        rw [et] at g1
        have em := road_last g1
        have hd := road_dir rde _ (List.getElem_mem hj1)
        have ha : atI (es.map V.int) ((j : Int) - 1) = some (.int es[j - 1]) := by
          have := atI_nat (xs := es.map V.int) (j := j - 1) (v := .int es[j - 1]) (by rw [List.getElem?_map, List.getElem?_eq_getElem hj1]; rfl)
          rwa [show (((j - 1 : Nat)) : Int) = (j : Int) - 1 by omega] at this
        refine es_fn (evc (es_vV rfl) (evc (es_ixT (es_vT rfl hq2) (es_i0 (es_vV rfl) es_cV) ha) ev0)) fun H1 e Q q => ⟨a, ts, _, rfl, ties_same e (ties_rs s2 ht), hd, fun H' e' => q _ _ e' (by rw [em])⟩
      · subst ev
        have s3 : Rs (some S) H H3 := s2.tr (.same s2.s1 e3)
        refine ⟨.ref a, rfl, .int m, rfl, a, ts, m, rfl, ties_rs s3 ht, by omega, fun H4 b e4 hb => ?_⟩
        have s4 : Rs (some S) H H4 := s3.tr (.same s3.s1 e4)
        have bl := begs_len ts m
        have bp : 0 < (begs ts m).length := List.length_pos_iff.mpr (begs_ne dr hne hm.1 hm.2)
        refine ⟨.ref b, rfl, .ref S, rfl, .ref b, rfl, b, _, rfl, .inr hb, S, _, rfl, s4.s1, by rw [List.length_map]; omega, by rw [List.length_map]; omega, fun H5 u r5 u0 u1 => ?_⟩
        rw [List.length_map] at u1
        obtain ⟨y, rfl⟩ : ∃ j : Nat, u = (j : Int) := ⟨u.toNat, by omega⟩
        have hy : y < (begs ts m).length := by omega
        have s5 := s4.tr r5
        obtain ⟨hd, hb1⟩ := mem_begs.mp (List.getElem_mem hy)
        refine ⟨b, _, _, .int (begs ts m)[y], rfl, rfl, r5.tup hb, atI_nat (by rw [List.getElem?_map, List.getElem?_eq_getElem hy]; rfl), ?_⟩
        generalize (begs ts m)[y] = t at hd hb1
        have hq5 : SqT K H5 q (es.map V.int) := r5.tup (same_tup (Same.trans e3 e4) hq2)
        obtain ⟨w1, w2⟩ := road_puff g1 g2 hd hb1
        have hcat : EvS (tOp (rCatA K) (tOp (rCatA K) (tSl (rSlA K) (tVar 4) tNoPart (tPart (tVar 6))) (tTup (tCons (tVar 9) (tCons (tOp (rI0 fun i j => V.int (i - j)) (tC (.int 0)) (tVar 9)) tNil)))) (tSl (rSlA K) (tVar 4) (tPart (tVar 6)) tNoPart)) [some (.ref S), some (.ref a), some (.ref r), some (.int p), some (.ref q), some (.int (0 + (i : Int))), some (.int (j : Int)), some (.int m), some (.ref b), some (.int t)] H5 (IsI K (es.take j ++ [t, 0 - t] ++ es.drop j)) := es_cat (es_cat (evs_to rfl rfl hq5) (es_t2 (es_vV rfl) (es_i0 es_cV (es_vV rfl))) (by rw [List.length_take]; simp; omega)) (evs_from rfl rfl hq5) (by simp; omega)
        refine hcat H5 (Same.refl _) _ fun v H6 e6 ⟨z, ev, hz6⟩ => ?_
        subst ev
        refine ⟨s5.tr (.same s5.s1 e6), z, es.take j ++ [t, -t] ++ es.drop j, ?_, ?_, w1, w2.trans red, _, _, _, _, _, rfl⟩
        · rwa [Int.zero_sub] at hz6
        · simp
          omega
    · obtain ⟨s1, q, es, hq, el, rde, red, x5, x6, x7, x8, x9, rfl⟩ := p'
      have hc : c < 4 := c1
      refine ⟨.ref q, rfl, k _ q es s1 hq rde red (by omega) fun z => ?_⟩
      rw [z, List.length_nil] at el
      omega
theorem cl__law_puffed (T : Txt K mg) : Cl P w K mg base 3 "_law_puffed" (spPuff K) := by
  obtain ⟨f, fd, F, hm, hb⟩ := T.f__law_puffed
  exact cl_of (ok__law_puffed F T) hm F.kp hb
def Stp (m : List Int) : Prop := ∀ t q, m = (-q) :: (t ++ [q]) → False
theorem cutI_in (p q : Int) (t : List Int) : cutI (p :: (t ++ [q])) (some 1) (some (-1)) = t := by
  unfold cutI
  have e1 : HT.sIx (p :: (t ++ [q])).length 0 (some 1) = 1 := by
    rw [show (some (1 : Int)) = some ((1 : Nat) : Int) from rfl, HT.sIx_nat]
    simp
  have e2 : HT.sIx (p :: (t ++ [q])).length (p :: (t ++ [q])).length (some (-1)) = t.length + 1 := by
    show (if (-1 : Int) < 0 then ((-1 : Int) + ((p :: (t ++ [q])).length : Int)).toNat else min (-1 : Int).toNat (p :: (t ++ [q])).length) = _
    rw [if_pos (by decide)]
    simp only [List.length_cons, List.length_append, List.length_nil]
    omega
  rw [e1, e2]
  show ((t ++ [q]).take (t.length + 1 - 1)) = t
  rw [Nat.add_sub_cancel, List.take_left]
theorem spl_stp {n : Int} {ns c m : List Int} (hw : Wd n ns) (s : ns = c ++ m ++ Fr.opp c) (h : Stp m) : Rg.Spl ns c m := by
  have nf : Fr.Nf (c ++ m ++ Fr.opp c) := s ▸ hw.nf
  refine ⟨s, fun q => ?_, fun q => ⟨fun e => ?_, fun x y hx hy e => ?_⟩⟩
  · rw [q] at s
    have := congrArg List.length s
    simp only [List.length_append, List.length_nil] at this
    exact ⟨List.eq_nil_of_length_eq_zero (by omega), List.eq_nil_of_length_eq_zero (by omega)⟩
  · subst e
    by_cases hc : c = []
    · subst hc; exact q s
    · obtain ⟨t, z, rfl⟩ := Rg.snoc_of hc
      rw [List.append_nil] at nf
      exact Rg.nf_jn nf (Rg.last_snoc t z) (by rw [Fr.opp_app]; rfl) (by omega : z = - -z)
  · cases m with
    | nil => cases hy
    | cons p u =>
      cases hy
      by_cases hu : u = []
      · subst hu
        have hx : y = x := Option.some.inj hx
        have := (hw.lt y (by rw [s]; simp)).1
        omega
      · obtain ⟨t, z, rfl⟩ := Rg.snoc_of hu
        rw [← List.cons_append, Rg.last_snoc] at hx
        cases hx
        exact h t x (by rw [show y = -x by omega])
theorem dpall_of {H : Hp} : ∀ {ps : List Addr} {ts : List (List Int)}, ps.length = ts.length → (∀ (j : Nat) (p : Addr) (t : List Int), ps[j]? = some p → ts[j]? = some t → SqT K H p (t.map V.int)) → DpAll K H (ps.map V.ref) (ts.map tupD)
  | [], [], _, _ => .nil
  | [], _ :: _, h, _ => nomatch h
  | _ :: _, [], h, _ => nomatch h
  | p :: ps, t :: ts, h, q => .cons (dp_tup (q 0 p t rfl rfl)) (dpall_of (by simpa using h) fun j p t hp ht => q (j + 1) p t hp ht)
def spLRing23 (K : PySem.W.Frag) : Sp := fun vs H Q _ => ∃ (n : Int) (a : Addr) (ns : List Int), vs = [.ref a] ∧ SqT K H a (ns.map V.int) ∧ Lt n ns ∧ ns.length ≤ 1000 ∧ ∀ H' p r, Same H H' → Rg.RingW (Fr.red ns) r → SqT K H' p (r.map V.int) → Q (.ref p) H'
theorem ok__law_ring {f : Addr} {fd : FuncData} (F : Fun K "_law_ring" "_law_ring" st__law_ring f fd) (T : Txt K mg) : FnOk P w K mg base CX0 2 f fd ["row"] (spLRing23 K) := by
  have c__law_bare : Cl P w K mg base 1 "_law_bare" (spLBare K) := cl__law_bare T
  refine F.ok sc__law_ring (fun vs H Q E h => ?_) (fun cdv A outer s H vs Q E hr h => ?_)
  · obtain ⟨n, a, ns, rfl, _⟩ := h
    rfl
  · obtain ⟨n, a, ns, rfl, h, hlt, hz, k⟩ := h
    have hw : Wd n (Fr.red ns) := wd_red hlt
    have hlr := len_red ns
    refine ⟨_, (pss_cons (ps_set (i := 1) sc__law_ring.nd rfl (Or.inr rfl) (pe_f c__law_bare hr (by decide) rfl (pa_cons (pv 0) pa_nil))) (pss_cons (ps_while PassesOwn.never (PW.pt (pw_and (pt_cmpR op_gt (pe_callB (kcall_len (K := K)) (by rfl) T.n_len bo_len (pa_cons (pv 1) pa_nil)) pe_int (nomark _)) (pw_and1 (pt_cmpR op_eq (pe_ix (kix_tup (K := K)) (pv 1) pe_int (fun _ _ => rfl)) (pe_op op_sub pe_int (pe_ix (kix_tup (K := K)) (pv 1) (pe_un un_neg pe_int) (fun _ _ => rfl))) (nomark _))))) (pss_one (ps_set (i := 1) sc__law_ring.nd rfl (Or.inr rfl) (pe_slice (ksl_tupA (K := K)) (pv 1) (po_some pe_int) (po_some (pe_un un_neg pe_int)))))) (pss_one (ps_ret (pe_callB (kcr_minT (K := K) rfl hr.units) (by rfl) T.n_min bo_min (pa_cons (pe_lc (own := [("at", 2)]) rfl sc__law_ring.nd (pi_range1 rfl T.n_range (pa_cons (pe_callB (call_max2 rfl) (by rfl) T.n_max bo_max (pa_cons pe_int (pa_cons (pe_callB (kcall_len (K := K)) (by rfl) T.n_len bo_len (pa_cons (pv 1) pa_nil)) pa_nil))) pa_nil)) (blkOk_by (N := nm__law_ring) (sc := defScope st__law_ring) (by decide +kernel)) (fun _ _ _ _ _ => (pg_name (i := 2) sc__law_ring.nd rfl (by first | exact Or.inl rfl | exact Or.inr rfl))) (fun _ _ _ _ _ => pts_nil) (fun _ _ _ _ _ => (pe_op (kop_catA (K := K)) (pe_slice (ksl_tupA (K := K)) (pv 1) (po_some (pv 2)) po_none) (pe_slice (ksl_tupA (K := K)) (pv 1) po_none (po_some (pv 2)))))) pa_nil)))))), ?_⟩
    refine ⟨.ref a, rfl, a, ns, rfl, .inr h, by omega, fun H0 b e0 hb => ?_⟩
    have fin : ∀ (H1 : Hp) (g : Addr) (c m : List Int), Same H H1 → SqT K H1 g (m.map V.int) → Rg.Spl (Fr.red ns) c m → (tRet (tCB (rMinT K) (tCons (tLc (iRng1 (tCons (tCB (fun xs H Q => ∃ i j, xs = [V.int i, V.int j] ∧ Q (V.int (if j > i then j else i)) H) (tCons (tC (V.int 1)) (tCons (tCB (N0.rLen K) (tCons (tVar 1) tNil)) tNil))) tNil)) (gName 2) tYes (tOp (rCatA K) (tSl (rSlA K) (tVar 1) (tPart (tVar 2)) tNoPart) (tSl (rSlA K) (tVar 1) tNoPart (tPart (tVar 2)))) [2]) tNil))) { nx := fun _ H' => Q .non H', rt := Q } [some (.ref a), some (.ref g), none] H1 := fun H1 g c m e1 hg hs => by
      have em : (if ((m.length : Nat) : Int) > 1 then ((m.length : Nat) : Int) else 1) = ((max 1 m.length : Nat) : Int) := by split <;> omega
      have hl := congrArg List.length hs.1
      rw [List.length_append, List.length_append, Fr.opp_len] at hl
      refine ⟨.ref g, rfl, g, _, rfl, .inr hg, _, _, rfl, ?_⟩
      refine ⟨((max 1 m.length : Nat) : Int), by rw [List.length_map, ← em], by omega, by omega, fun D hD => lc_range (lo := 0) (n := max 1 m.length) (fun i H' => Same H1 H' ∧ ∃ ps : List Addr, H' D = some (.lst (ps.map V.ref)) ∧ ps.length = i ∧ ∀ j p, ps[j]? = some p → SqT K H' p ((Rg.rot m j).map V.int)) ⟨new_same hD, [], upd_same, rfl, fun j p z => nomatch z⟩ (fun i H' hi p => ?_) fun H' p => ?_⟩
      · obtain ⟨e2, ps, d2, pl, hp⟩ := p
        refine ⟨rfl, ?_⟩
        refine ⟨.ref g, rfl, .int (0 + i), rfl, _, rfl, nopart (sl_ints (same_tup e2 hg) fun H3 p3 e3 h3 => ⟨.ref g, rfl, nopart ⟨.int (0 + i), rfl, _, rfl, sl_ints (same_tup (Same.trans e2 e3) hg) fun H4 p4 e4 h4 => ?_⟩⟩)⟩
        rw [Int.zero_add, cutI_from] at h3
        rw [Int.zero_add, cutI_to] at h4
        refine cat_ints (same_tup e4 h3) h4 (by rw [List.length_drop, List.length_take]; omega) fun H5 p5 e5 h5 => ?_
        have e25 := Same.trans (Same.trans e3 e4) e5
        have h5 : SqT K H5 p5 ((Rg.rot m i).map V.int) := h5
        have d5 := e25 _ _ d2
        refine ⟨_, d5, small1000 (by rw [List.length_map]; omega), same_mut (Same.trans e2 e25) hD, ps ++ [p5], by rw [upd_same, List.map_append]; rfl, by rw [List.length_append, pl]; rfl, fun j p z => ?_⟩
        refine tup_mutl d5 ?_
        by_cases hj : j < ps.length
        · rw [List.getElem?_append_left hj] at z
          exact same_tup e25 (hp j p z)
        · rw [List.getElem?_append_right (by omega)] at z
          cases q : j - ps.length with
          | zero =>
            rw [q] at z
            cases z
            have : j = i := by omega
            subst this
            exact h5
          | succ u => rw [q] at z; cases z
      · obtain ⟨e2, ps, d2, pl, hp⟩ := p
        have lt : ((List.range (max 1 m.length)).map (Rg.rot m)).length = max 1 m.length := by rw [List.length_map, List.length_range]
        have at_ : ∀ j, j < max 1 m.length → ((List.range (max 1 m.length)).map (Rg.rot m))[j]? = some (Rg.rot m j) := fun j hj => by
          rw [List.getElem?_map, List.getElem?_range hj]
          rfl
        refine ⟨D, ps.map V.ref, (List.range (max 1 m.length)).map (Rg.rot m), rfl, lst_of d2, dpall_of (by rw [lt, pl]) fun j p t hj ht => ?_, by rw [lt]; omega, fun i v u hv hu hmin => ?_⟩
        · have hjl : j < max 1 m.length := by
            have := (List.getElem?_eq_some_iff.mp hj).1
            omega
          rw [at_ j hjl] at ht
          cases ht
          exact hp j p hj
        · have hil : i < max 1 m.length := by
            have := (List.getElem?_eq_some_iff.mp hu).1
            omega
          rw [at_ i hil] at hu
          cases hu
          rw [List.getElem?_map] at hv
          cases q : ps[i]? with
          | none => rw [q] at hv; cases hv
          | some p =>
            rw [q] at hv
            cases hv
            have hr : Rg.Ring m (Rg.rot m i) := by
              by_cases hm : m.length = 0
              · have e0 : m = [] := List.eq_nil_of_length_eq_zero hm
                subst e0
                have : i = 0 := by simp at hil; omega
                subst this
                exact Rg.ring_nil
              · refine Rg.ring_rot (by omega) (Rg.least_lex (by omega) fun t ht => hmin _ ?_)
                exact List.mem_map.mpr ⟨t, List.mem_range.mpr (by omega), rfl⟩
            exact k _ _ _ (Same.trans e1 e2) ⟨c, m, hs, hr⟩ (hp i p q)
    refine ⟨fun m σ H' => ∃ (g : Addr) (c mm : List Int), m = mm.length ∧ Same H H' ∧ SqT K H' g (mm.map V.int) ∧ Fr.red ns = c ++ mm ++ Fr.opp c ∧ σ = [some (.ref a), some (.ref g), none], ⟨_, b, [], Fr.red ns, rfl, e0, hb, by simp [Fr.opp], rfl⟩, fun m0 σ H' ⟨g, c, m, hm, e1, hg, hs, es⟩ => ?_⟩
    subst es
    refine ⟨.ref g, rfl, g, _, rfl, .inr hg, _, _, rfl, rfl, _, rfl, ite2 (fun h1 => ?_) fun h1 => ?_⟩
    · have h1 : 1 < m.length := by have := of_decide_eq_true h1; rw [List.length_map] at this; omega
      obtain ⟨p, t, q, rfl⟩ : ∃ p t q, m = p :: (t ++ [q]) := by
        cases m with
        | nil => simp at h1
        | cons p u =>
          obtain ⟨t, q, rfl⟩ := Rg.snoc_of (m := u) (fun e => by subst e; simp at h1)
          exact ⟨p, t, q, rfl⟩
      refine ⟨.ref g, rfl, g, _, 0, .int p, rfl, rfl, hg, atI_nat (j := 0) rfl, .ref g, rfl, 1, rfl, g, _, _, .int q, rfl, rfl, hg, by rw [← List.cons_append, List.map_append]; exact atI_last _ _, _, _, rfl, rfl, rfl, _, rfl, ?_⟩
      rw [dec_int]
      refine ite2 (fun h2 => ?_) fun h2 => ?_
      · have h2 : p = 0 - q := of_decide_eq_true h2
        have hp : p = -q := by omega
        subst hp
        refine ⟨fun σ' H2 => ∃ p2 : Addr, Same H H2 ∧ SqT K H2 p2 (t.map V.int) ∧ σ' = [some (.ref a), some (.ref p2), none], fun σ' H2 ⟨p2, e2, hp2, es⟩ => ⟨t.length, by rw [hm]; simp; omega, p2, c ++ [-q], t, rfl, e2, hp2, ?_, es⟩, .ref g, rfl, 1, rfl, 1, rfl, _, rfl, sl_ints hg fun H2 p2 e2 hp2 => ⟨p2, Same.trans e1 e2, (cutI_in (-q) q t) ▸ hp2, rfl⟩⟩
        rw [hs, Fr.opp_app]
        show c ++ -q :: (t ++ [q]) ++ Fr.opp c = c ++ [-q] ++ t ++ ([- -q] ++ Fr.opp c)
        rw [Int.neg_neg]
        simp [List.append_assoc]
      · have h2 : ¬ p = -q := fun z => h2 (decide_eq_true (by omega))
        refine fin H' g c _ e1 hg (spl_stp hw hs fun t' q' z => ?_)
        injection z with z1 z2
        have := congrArg List.getLast? z2
        rw [Rg.last_snoc, Rg.last_snoc] at this
        injection this with this
        exact h2 (by rw [z1, this])
    · have h1 : ¬ 1 < m.length := fun z => h1 (decide_eq_true (by rw [List.length_map]; omega))
      refine fin H' g c m e1 hg (spl_stp hw hs fun t q z => ?_)
      rw [z] at h1
      simp at h1
theorem cl__law_ring (T : Txt K mg) : Cl P w K mg base 2 "_law_ring" (spLRing23 K) := by
  obtain ⟨f, fd, F, hm, hb⟩ := T.f__law_ring
  exact cl_of (ok__law_ring F T) hm F.kp hb
/-! values near roads: their kinds, with their data -/
inductive EnR (K : PySem.W.Frag) (H : Hp) : V → Option Int → Prop
  | int (i : Int) : EnR K H (.int i) (some i)
  | bl (b : Bool) : EnR K H (.bl b) none
  | non : EnR K H .non none
  | str (x : Str) (h : (PyData.str x).canLay0 = true) : EnR K H (.str x) none
  | tup {p : Addr} {ns : List Int} (h : SqT K H p (ns.map V.int)) : EnR K H (.ref p) none
inductive VaR (K : PySem.W.Frag) (H : Hp) : V → Option (List (Option Int)) → Prop
  | tup {a : Addr} {xs : List V} {os : List (Option Int)} (h : SqT K H a xs) (hl : xs.length = os.length) (hz : xs.length ≤ 1000) (he : ∀ (j : Nat) x o, xs[j]? = some x → os[j]? = some o → EnR K H x o) : VaR K H (.ref a) (some os)
  | oth {v : V} {t : String} (h : TyX K H v (.type t)) (k : kitB t "tuple" = some false) : VaR K H v none
theorem enr_same {H H1 : Hp} {v : V} {o : Option Int} (e : Same H H1) (h : EnR K H v o) : EnR K H1 v o := by
  cases h with
  | int i => exact .int i
  | bl b => exact .bl b
  | non => exact .non
  | str x h => exact .str x h
  | tup h => exact .tup (same_tup e h)
theorem var_same {H H1 : Hp} {v : V} {o : Option (List (Option Int))} (e : Same H H1) (h : VaR K H v o) : VaR K H1 v o := by
  cases h with
  | tup h hl hz he => exact .tup (same_tup e h) hl hz fun j x o a b => enr_same e (he j x o a b)
  | oth h k => exact .oth (tyx_same e h) k
theorem enr_ty {H : Hp} {v : V} {o : Option Int} (h : EnR K H v o) : ∃ t ib bb, TyX K H v (.type t) ∧ kitB t "int" = some ib ∧ kitB t "bool" = some bb ∧ (bb || !ib) = o.isNone := by
  cases h with
  | int i => exact ⟨"int", true, false, .base (.int i), by decide +kernel, by decide +kernel, rfl⟩
  | bl b => exact ⟨"bool", true, true, .base (.bl b), by decide +kernel, by decide +kernel, rfl⟩
  | non => exact ⟨"NoneType", false, false, .base .non, by decide +kernel, by decide +kernel, rfl⟩
  | str x _ => exact ⟨"str", false, false, .base (.str x), by decide +kernel, by decide +kernel, rfl⟩
  | tup h => exact ⟨"tuple", false, false, tyx_tup h, by decide +kernel, by decide +kernel, rfl⟩
theorem enr_dp {H : Hp} {v : V} {o : Option Int} (h : EnR K H v o) : ∃ d, Dp K H v d ∧ d.canLay0 = true ∧ d.depth ≤ 1 := by
  cases h with
  | int i => exact ⟨_, .int i, rfl, by show 0 ≤ 1; decide⟩
  | bl b => exact ⟨_, .bl b, rfl, by show 0 ≤ 1; decide⟩
  | non => exact ⟨_, .non, rfl, by show 0 ≤ 1; decide⟩
  | str x h => exact ⟨_, .str x, h, by show 0 ≤ 1; decide⟩
  | @tup p ns h => exact ⟨_, dp_tup h, canLay_tup ns, by show PyData.depthAll (ns.map .int) + 1 ≤ 1; rw [depth_ints]; exact Nat.le_refl _⟩
theorem enr_dpa {H : Hp} : ∀ {ys : List V}, (∀ y ∈ ys, ∃ o, EnR K H y o) → ∃ ds, DpAll K H ys ds ∧ PyData.canLayAll0 ds = true ∧ PyData.depthAll ds ≤ 1 ∧ ds.length = ys.length
  | [], _ => ⟨[], .nil, rfl, by show 0 ≤ 1; decide, rfl⟩
  | y :: ys, h => by
    obtain ⟨o, ho⟩ := h y List.mem_cons_self
    obtain ⟨d, h1, h2, h3⟩ := enr_dp ho
    obtain ⟨ds, g1, g2, g3, g4⟩ := enr_dpa (ys := ys) fun z hz => h z (List.mem_cons_of_mem _ hz)
    exact ⟨d :: ds, .cons h1 g1, by show (d.canLay0 && _) = true; rw [h2, g2]; rfl, by show max d.depth _ ≤ 1; omega, by rw [List.length_cons, List.length_cons, g4]⟩
/-- a list of data, compared with the empty one -/
abbrev LstD (K : PySem.W.Frag) (e : Bool) : V → Hp → Prop := fun v H => ∃ ds, Dp K H v (.list ds) ∧ SeqAt.shaped (.list ds) = true ∧ ds.isEmpty = e
theorem es_neNil {te : TE} {σ : L2.St} {H : Hp} {e : Bool} (h : EvS te σ H (LstD K e)) : EvS (tOp (rNeD K) te (tLst tNil)) σ H (IsV (.bl (!e))) := fun H1 e1 Q q =>
  h H1 e1 _ fun v H2 e2 ⟨ds, hd, sh, he⟩ => ⟨Nat.zero_le _, fun p hp => ⟨_, .list [], dp_same (new_same hp) _ _ hd, .lst (lst_of upd_same) .nil, sh, by decide, q _ _ (Same.trans e2 (new_same hp)) (by subst he; cases ds <;> rfl)⟩⟩
theorem es_eqNil {te : TE} {σ : L2.St} {H : Hp} {e : Bool} (h : EvS te σ H (LstD K e)) : EvS (tOp (rEqD K) te (tLst tNil)) σ H (IsV (.bl e)) := fun H1 e1 Q q =>
  h H1 e1 _ fun v H2 e2 ⟨ds, hd, sh, he⟩ => ⟨Nat.zero_le _, fun p hp => ⟨_, .list [], dp_same (new_same hp) _ _ hd, .lst (lst_of upd_same) .nil, sh, by decide, q _ _ (Same.trans e2 (new_same hp)) (by subst he; cases ds <;> rfl)⟩⟩
theorem lstD_of {H : Hp} {D : Addr} {ys : List V} (h : H D = some (.lst ys)) (he : ∀ y ∈ ys, ∃ o, EnR K H y o) : LstD K ys.isEmpty (.ref D) H := by
  obtain ⟨ds, g1, g2, g3, g4⟩ := enr_dpa he
  refine ⟨ds, .lst (lst_of h) g1, ?_, ?_⟩
  · unfold SeqAt.shaped
    have e1 : (PyData.list ds).canLay0 = true := g2
    have e2 : (PyData.list ds).depth = PyData.depthAll ds + 1 := rfl
    rw [e1, e2, decide_eq_true (by omega)]
    rfl
  · cases ds <;> cases ys <;> first | rfl | (simp at g4)
theorem es_isi {te : TE} {σ : L2.St} {H : Hp} {c : String} {b : Bool} (h : EvS te σ H (fun v H' => ∃ t, TyX K H' v (.type t) ∧ kitB t c = some b)) : EvS (tCB (rIsi K) (tCons te (tCons (tC (.ty c)) tNil))) σ H (IsV (.bl b)) := fun H1 e Q q =>
  h H1 e _ fun v H2 e2 ⟨t, ty, k⟩ => ⟨v, _, _, _, b, rfl, .ty _, ty, kit_ty k, q _ _ e2 rfl⟩
/-- neighbours fit -/
def nx (ts : Ts) : List Int → Bool
  | a :: b :: r => decide (beg ts (-a) = beg ts b) && nx ts (b :: r)
  | _ => true
def roadB (ts : Ts) : Option (List (Option Int)) → Bool
  | none => false
  | some os => os.all (fun o => match o with | some t => decide (IsDir ts t) | none => false) && nx ts (os.map fun o => o.getD 0)
theorem nx_iff {ts : Ts} : ∀ {ns : List Int}, nx ts ns = true ↔ ∀ j, j + 1 < ns.length → beg ts (-ns.getD j 0) = beg ts (ns.getD (j + 1) 0)
  | [] => ⟨fun _ j h => absurd h (Nat.not_lt_zero _), fun _ => rfl⟩
  | [a] => ⟨fun _ j h => absurd h (by simp), fun _ => rfl⟩
  | a :: b :: r => by
    show (decide (beg ts (-a) = beg ts b) && nx ts (b :: r)) = true ↔ _
    rw [Bool.and_eq_true, decide_eq_true_iff, nx_iff (ns := b :: r)]
    constructor
    · rintro ⟨h1, h2⟩ j hj
      cases j with
      | zero => exact h1
      | succ j => exact h2 j (by simpa using hj)
    · intro h
      exact ⟨h 0 (by simp), fun j hj => h (j + 1) (by simpa using hj)⟩
theorem all_some {os : List (Option Int)} (h : ∀ o ∈ os, o.isNone = false) : ∃ ns : List Int, os = ns.map some := by
  refine ⟨os.map fun o => o.getD 0, ?_⟩
  rw [List.map_map]
  refine (List.map_id _).symm.trans (List.map_congr_left fun o ho => ?_)
  cases o with
  | none => exact nomatch h _ ho
  | some i => rfl
def notI : V → Bool
  | .int _ => false
  | _ => true
theorem enr_not {H : Hp} {v : V} {o : Option Int} (h : EnR K H v o) : notI v = o.isNone := by cases h <;> rfl
theorem walk_zipT {a b : Addr} {xs ys : List V} {n : Nat} (hn : n = min xs.length ys.length) : Walk (RZ.ItzT K a b) n (fun H => SqT K H a xs ∧ SqT K H b ys) (YPair (fun i => xs[i]?) (fun i => ys[i]?)) := by
  subst hn
  refine ⟨fun i _ hi q => ?_, fun _ q => ⟨xs, ys, q.1, q.2, by omega⟩, fun i H v H' _ q y => ?_⟩
  · have h1 : i < xs.length := by omega
    have h2 : i < ys.length := by omega
    exact ⟨xs, ys, xs[i], ys[i], q.1, q.2, by simp [h1], by simp [h2]⟩
  · obtain ⟨T, x, z, h1, h2, h3, h4, h5⟩ := y
    exact ⟨T, x, z, h1, h2, h3, h4 xs q.1, h5 ys q.2⟩
theorem es_chainI {f g : Int → Int → V} {ta tb tc : TE} {σ : L2.St} {H : Hp} {i j l : Int} {p q : Bool} (ha : EvS ta σ H (IsV (.int i))) (hb : EvS tb σ H (IsV (.int j))) (hc : EvS tc σ H (IsV (.int l))) (hf : f i j = .bl p) (hg : g j l = .bl q) : EvS (tChain (rI0 f) (rI0 g) ta tb tc) σ H (IsV (.bl (p && q))) := fun H1 e Q k =>
  ha H1 e _ fun x H2 e2 ex => hb H2 (Same.trans e e2) _ fun y H3 e3 ey => by
    subst ex
    subst ey
    refine ⟨i, j, rfl, rfl, p, hf, ?_⟩
    cases p with
    | true =>
      refine hc H3 (Same.trans (Same.trans e e2) e3) _ fun z H4 e4 ez => ?_
      subst ez
      exact ⟨j, l, rfl, rfl, k _ _ (Same.trans (Same.trans e2 e3) e4) hg⟩
    | false => exact k _ _ (Same.trans e2 e3) rfl
theorem es_absI {te : TE} {σ : L2.St} {H : Hp} {i : Int} (h : EvS te σ H (IsV (.int i))) : EvS (tCB (fun xs H Q => ∃ i, xs = [V.int i] ∧ Q (V.int (if i < 0 then -i else i)) H) (tCons te tNil)) σ H (IsV (.int (if i < 0 then -i else i))) := es_cb1 h fun v H1 e ev Q q => by
  subst ev
  exact ⟨i, rfl, q _ _ (Same.refl _) rfl⟩
def spIsRoadL (K : PySem.W.Frag) : Sp := fun vs H Q _ => ∃ (a : Addr) (ts : Ts) (v : V) (o : Option (List (Option Int))), vs = [.ref a, v] ∧ TiesT K H a ts ∧ VaR K H v o ∧ ∀ H', Same H H' → Q (.bl (roadB ts o)) H'
theorem ok__law_is_road {f : Addr} {fd : FuncData} (F : Fun K "_law_is_road" "_law_is_road" st__law_is_road f fd) (T : Txt K mg) : FnOk P w K mg base CX0 3 f fd ["ties", "value"] (spIsRoadL K) := by
  have c__law_begin : Cl P w K mg base 1 "_law_begin" (spBegin K) := cl__law_begin T
  have c__law_end : Cl P w K mg base 2 "_law_end" (spEnd K) := cl__law_end T
  refine F.ok sc__law_is_road (fun vs H Q E h => ?_) (fun cdv A outer s H vs Q E hr h => ?_)
  · obtain ⟨a, ts, v, o, rfl, _⟩ := h
    rfl
  · obtain ⟨a, ts, v, o, rfl, hT, va, k⟩ := h
    refine ⟨_, (pss_cons (ps_if (pt_not (pt_val (pe_callB (kcall_isi (K := K)) (by rfl) T.n_isinstance bo_isinstance (pa_cons (pv 1) (pa_cons (pe_bltn (by rfl) T.n_tuple bo_tuple rel_ty) pa_nil))))) (pss_one (ps_ret pe_bl)) pss_nil) (pss_cons (ps_if (pt_cmpR (kop_neD (K := K) hr.units) (pe_lc (own := [("tie", 2)]) rfl sc__law_is_road.nd (kpi_tup (K := K) (pv 1)) (blkOk_by (N := nm__law_is_road) (sc := defScope st__law_is_road) (by decide +kernel)) (fun _ _ _ _ _ => (pg_name (i := 2) sc__law_is_road.nd rfl (by first | exact Or.inl rfl | exact Or.inr rfl))) (fun _ _ _ _ _ => pts_one (PW.pt (pw_or (pt_val (pe_callB (kcall_isi (K := K)) (by rfl) T.n_isinstance bo_isinstance (pa_cons (pv 2) (pa_cons (pe_bltn (by rfl) T.n_bool bo_bool rel_ty) pa_nil)))) (pw_or1 (pt_not (pt_val (pe_callB (kcall_isi (K := K)) (by rfl) T.n_isinstance bo_isinstance (pa_cons (pv 2) (pa_cons (pe_bltn (by rfl) T.n_int bo_int rel_ty) pa_nil))))))))) (fun _ _ _ _ _ => (pv 2))) (pe_lst pa_nil) (nomark _)) (pss_one (ps_ret pe_bl)) pss_nil) (pss_cons (ps_if (pt_cmpR (kop_neD (K := K) hr.units) (pe_lc (own := [("tie", 2)]) rfl sc__law_is_road.nd (kpi_tup (K := K) (pv 1)) (blkOk_by (N := nm__law_is_road) (sc := defScope st__law_is_road) (by decide +kernel)) (fun _ _ _ _ _ => (pg_name (i := 2) sc__law_is_road.nd rfl (by first | exact Or.inl rfl | exact Or.inr rfl))) (fun _ _ _ _ _ => pts_one (pt_not (pt_chain op_le op_le pe_int (pe_callB call_abs (by rfl) T.n_abs bo_abs (pa_cons (pv 2) pa_nil)) (pe_callB (kcall_len (K := K)) (by rfl) T.n_len bo_len (pa_cons (pv 0) pa_nil))))) (fun _ _ _ _ _ => (pv 2))) (pe_lst pa_nil) (nomark _)) (pss_one (ps_ret pe_bl)) pss_nil) (pss_one (ps_ret (pe_cmpR (kop_eqD (K := K) hr.units) (pe_lc (own := [("one", 3), ("other", 4)]) rfl sc__law_is_road.nd (RZ.pi_zipA rfl T.n_zip (pa_cons (pv 1) (pa_cons (pe_slice (ksl_tupA (K := K)) (pv 1) (po_some pe_int) po_none) pa_nil))) (blkOk_by (N := nm__law_is_road) (sc := defScope st__law_is_road) (by decide +kernel)) (fun _ _ _ _ _ => (kpg_tup (K := K) (n := 2) rfl (pgs_cons (pg_name (i := 3) sc__law_is_road.nd rfl (by first | exact Or.inl rfl | exact Or.inr rfl)) (pgs_cons (pg_name (i := 4) sc__law_is_road.nd rfl (by first | exact Or.inl rfl | exact Or.inr rfl)) pgs_nil)))) (fun _ _ _ _ _ => pts_one (pt_cmpR op_ne (pe_f c__law_end hr (by decide) rfl (pa_cons (pv 0) (pa_cons (pv 3) pa_nil))) (pe_f c__law_begin hr (by decide) rfl (pa_cons (pv 0) (pa_cons (pv 4) pa_nil))) (nomark _))) (fun _ _ _ _ _ => pe_int)) (pe_lst pa_nil) (nomark _))))))), ?_⟩
    cases va with
    | @oth _ t hty kt =>
      refine ifs_b (eb_not (eb_test (es_isi (b := false) (evs_var rfl fun H1 e => ⟨_, tyx_same e hty, kt⟩)))) (fun _ H' e => k H' e) fun z => nomatch z
    | @tup c xs os hx hl hz he =>
      refine ifs_b (eb_not (eb_test (es_isi (b := true) (evs_var rfl fun H1 e => ⟨_, tyx_tup (same_tup e hx), by decide +kernel⟩)))) (fun z => nomatch z) fun _ H1 e1 => ?_
      have hex : ∀ x ∈ xs, ∃ o ∈ os, EnR K H x o := fun x h => by
        obtain ⟨j, hj, rfl⟩ := List.mem_iff_getElem.mp h
        exact ⟨os[j]'(by omega), List.getElem_mem _, he j _ _ (List.getElem?_eq_getElem hj) (List.getElem?_eq_getElem (by omega))⟩
      have hxo : ∀ o ∈ os, ∃ x ∈ xs, EnR K H x o := fun o h => by
        obtain ⟨j, hj, rfl⟩ := List.mem_iff_getElem.mp h
        exact ⟨xs[j]'(by omega), List.getElem_mem _, he j _ _ (List.getElem?_eq_getElem (by omega)) (List.getElem?_eq_getElem hj)⟩
      refine ifs_b (eb_test (es_neNil (e := (xs.filter notI).isEmpty) (es_imp (es_lcV (b := notI) id (fun x => [some (.ref a), some (.ref c), some x, none, none]) (ei_tup (es_seqT rfl (same_tup e1 hx))) (by omega) (fun _ _ _ _ q => q) (fun _ _ => rfl) (fun x hm => ?_) fun x hm hb => es_vV rfl) fun v H' e ⟨D, ev, d, _⟩ => ?_))) (fun hb H' e => ?_) fun hb H2 e2 => ?_
      · obtain ⟨o, _, en⟩ := hex x hm
        obtain ⟨t, ib, bb, h1, h2, h3, h4⟩ := enr_ty (enr_same e1 en)
        refine eb_as (eb_or2 (eb_test (es_isi (b := bb) (evs_var rfl fun H1 e => ⟨t, tyx_same e h1, h3⟩))) fun _ => eb_not (eb_test (es_isi (b := ib) (evs_var rfl fun H1 e => ⟨t, tyx_same e h1, h2⟩)))) ?_
        rw [h4, enr_not en]
      · subst ev
        rw [List.map_id] at d
        exact lstD_of d fun y hy => by
          obtain ⟨o, _, en⟩ := hex y (List.mem_filter.mp hy).1
          exact ⟨o, enr_same (Same.trans e1 e) en⟩
      · refine (show roadB ts (some os) = false from ?_) ▸ k H' (Same.trans e1 e)
        have hne : xs.filter notI ≠ [] := fun z => by rw [z] at hb; cases hb
        obtain ⟨x, hxm⟩ := List.exists_mem_of_ne_nil _ hne
        obtain ⟨h1, h2⟩ := List.mem_filter.mp hxm
        obtain ⟨o, ho, en⟩ := hex x h1
        rw [enr_not en] at h2
        have : os.all (fun o => match o with | some t => decide (IsDir ts t) | none => false) = false := by
          rw [List.all_eq_false]
          refine ⟨o, ho, ?_⟩
          cases o with
          | none => simp
          | some i => cases h2
        show (_ && _) = false
        rw [this]
        rfl
      · have hem : xs.filter notI = [] := by
          cases q : xs.filter notI with
          | nil => rfl
          | cons y r => rw [q] at hb; cases hb
        obtain ⟨ns, rfl⟩ := all_some (os := os) fun o ho => by
          obtain ⟨x, hm, en⟩ := hxo o ho
          rw [← enr_not en]
          have := List.filter_eq_nil_iff.mp hem x hm
          simpa using this
        rw [List.length_map] at hl
        have exs : xs = ns.map V.int := by
          refine List.ext_getElem? fun j => ?_
          rw [List.getElem?_map]
          by_cases hj : j < xs.length
          · have q1 := List.getElem?_eq_getElem hj
            have q2 := List.getElem?_eq_getElem (show j < ns.length by omega)
            have := he j _ (some ns[j]) q1 (by rw [List.getElem?_map, q2]; rfl)
            rw [q1, q2]
            generalize xs[j] = x at this
            cases this
            rfl
          · rw [List.getElem?_eq_none (by omega), List.getElem?_eq_none (by omega)]
            rfl
        subst exs
        have e12 := Same.trans e1 e2
        obtain ⟨ps, t1, t2⟩ := id (ties_same e12 hT)
        have tl := ties_len t2
        rw [List.length_map] at hz
        refine ifs_b (eb_test (es_neNil (e := (ns.filter fun i => !(decide (1 ≤ (if i < 0 then -i else i)) && decide ((if i < 0 then -i else i) ≤ (ts.length : Int)))).isEmpty) (es_imp (es_lcI (fun i => !(decide (1 ≤ (if i < 0 then -i else i)) && decide ((if i < 0 then -i else i) ≤ (ts.length : Int)))) V.int (fun x => [some (.ref a), some (.ref c), some x, none, none]) (ei_tup (es_seqT rfl (same_tup e12 hx))) (by omega) (fun _ _ _ _ q => q) (fun _ _ => rfl) (fun i hm => ?_) fun i hm hb => es_vV rfl) fun v H' e ⟨D, ev, d, _⟩ => ?_))) (fun hb H' e => ?_) fun hb H3 e3 => ?_
        · refine eb_not (eb_test (es_chainI es_cV (es_absI (es_vV rfl)) (es_as (es_lenSq (es_seqT rfl t1)) (by rw [tl])) rfl rfl))
        · subst ev
          have := lstD_of (K := K) d fun y hy => by
            obtain ⟨i, _, rfl⟩ := List.mem_map.mp hy
            exact ⟨some i, .int i⟩
          rwa [show (List.map V.int (ns.filter fun i => !(decide (1 ≤ (if i < 0 then -i else i)) && decide ((if i < 0 then -i else i) ≤ (ts.length : Int))))).isEmpty = (ns.filter fun i => !(decide (1 ≤ (if i < 0 then -i else i)) && decide ((if i < 0 then -i else i) ≤ (ts.length : Int)))).isEmpty by rw [List.isEmpty_map]] at this
        · refine (show roadB ts (some (ns.map some)) = false from ?_) ▸ k H' (Same.trans e12 e)
          have hne : (ns.filter fun i => !(decide (1 ≤ (if i < 0 then -i else i)) && decide ((if i < 0 then -i else i) ≤ (ts.length : Int)))) ≠ [] := fun z => by rw [z] at hb; cases hb
          obtain ⟨t, htm⟩ := List.exists_mem_of_ne_nil _ hne
          obtain ⟨h1, h2⟩ := List.mem_filter.mp htm
          have : (ns.map some).all (fun o => match o with | some t => decide (IsDir ts t) | none => false) = false := by
            rw [List.all_eq_false]
            refine ⟨some t, List.mem_map.mpr ⟨t, h1, rfl⟩, fun q => ?_⟩
            have q : IsDir ts t := of_decide_eq_true q
            obtain ⟨q1, q2, q3⟩ := q
            rw [decide_eq_true (by split <;> omega), decide_eq_true (by split <;> omega)] at h2
            cases h2
          show (_ && _) = false
          rw [this]
          rfl
        · have hem2 : (ns.filter fun i => !(decide (1 ≤ (if i < 0 then -i else i)) && decide ((if i < 0 then -i else i) ≤ (ts.length : Int)))) = [] := by
            generalize (ns.filter fun i => !(decide (1 ≤ (if i < 0 then -i else i)) && decide ((if i < 0 then -i else i) ≤ (ts.length : Int)))) = L at hb
            cases L with
            | nil => rfl
            | cons y r => cases hb
          have hdir : ∀ t ∈ ns, IsDir ts t := fun t ht => by
            have := List.filter_eq_nil_iff.mp hem2 t ht
            by_cases q1 : 1 ≤ (if t < 0 then -t else t)
            · by_cases q2 : (if t < 0 then -t else t) ≤ (ts.length : Int)
              · refine ⟨?_, ?_, ?_⟩ <;> (split at q1 <;> split at q2 <;> omega)
              · exact absurd (by rw [decide_eq_true q1, decide_eq_false q2]; rfl) this
            · exact absurd (by rw [decide_eq_false q1]; rfl) this
          have hall : (ns.map some).all (fun o => match o with | some t => decide (IsDir ts t) | none => false) = true := by
            rw [List.all_eq_true]
            intro o ho
            obtain ⟨t, ht, rfl⟩ := List.mem_map.mp ho
            exact decide_eq_true (hdir t ht)
          have hB : roadB ts (some (ns.map some)) = nx ts ns := by
            show (_ && nx ts ((ns.map some).map fun o => o.getD 0)) = _
            rw [hall, List.map_map]
            show (true && nx ts (ns.map fun i => i)) = _
            rw [List.map_id', Bool.true_and]
          have e13 := Same.trans e12 e3
          have hx3 := same_tup e13 hx
          have hT3 := ties_same e13 hT
          have gd : ∀ {j : Nat}, j < ns.length → (ns.map V.int)[j]? = some (.int (ns.getD j 0)) := fun {j} hj => by
            rw [List.getElem?_map, List.getElem?_eq_getElem hj, List.getD_eq_getElem?_getD, List.getElem?_eq_getElem hj]
            rfl
          have gm : ∀ {j : Nat}, j < ns.length → ns.getD j 0 ∈ ns := fun {j} hj => by
            rw [List.getD_eq_getElem?_getD, List.getElem?_eq_getElem hj]
            exact List.getElem_mem _
          have lc : EvS (tLc (RZ.iZipA K (tCons (tVar 1) (tCons (tSl (rSlA K) (tVar 1) (tPart (tC (V.int 1))) tNoPart) tNil))) (gTup K 2 (gCons (gName 3) (gCons (gName 4) gNil)))
              (tTest (tOp rNe (tFn (spEnd K) (tCons (tVar 0) (tCons (tVar 3) tNil))) (tFn (spBegin K) (tCons (tVar 0) (tCons (tVar 4) tNil))))) (tC (V.int 1)) [3, 4]) [some (.ref a), some (.ref c), none, none, none] H3 (LstD K (nx ts ns)) := fun G e Q q => by
            refine ⟨.ref c, rfl, .ref c, rfl, 1, rfl, nopart (sl_ints (same_tup e hx3) fun G2 p2 f2 hp2 => ?_)⟩
            rw [show (some (1 : Int)) = some ((1 : Nat) : Int) from rfl, cutI_from] at hp2
            have hx4 := same_tup (Same.trans e f2) hx3
            have hT4 := ties_same (Same.trans e f2) hT3
            refine ⟨c, p2, _, _, rfl, .inr ⟨hx4, hp2, fun D hD => lc_it (walk_zipT (n := ns.length - 1) (by rw [List.length_map, List.length_map, List.length_drop]; omega)) (fun i G => Same G2 G ∧ ∃ k : Nat, k ≤ i ∧ G D = some (.lst (List.replicate k (.int 1))) ∧ (k = 0 ↔ ∀ j, j < i → beg ts (-ns.getD j 0) = beg ts (ns.getD (j + 1) 0))) ⟨new_same hD, 0, Nat.le_refl _, upd_same, ⟨fun _ j hj => absurd hj (Nat.not_lt_zero _), fun _ => rfl⟩⟩ (fun i G _ p => ⟨same_tup p.1 hx4, same_tup p.1 hp2⟩) (fun i x G G' hi p y => ?_) fun G p => ?_⟩⟩
            · obtain ⟨g2, m, hm, dD, hiff⟩ := p
              obtain ⟨T, u, z, rfl, hT0, rfl, hu, hz'⟩ := y
              have hu : (ns.map V.int)[i]? = some u := hu
              have hz' : ((ns.drop 1).map V.int)[i]? = some z := hz'
              rw [gd (by omega)] at hu
              rw [List.map_drop, List.getElem?_drop, gd (by omega)] at hz'
              cases hu
              cases hz'
              have sT := new_same (o := .tup [V.int (ns.getD i 0), V.int (ns.getD (1 + i) 0)]) hT0
              have hT5 := ties_same (Same.trans g2 sT) hT4
              refine ⟨T, _, rfl, tup_of upd_same, rfl, _, _, rfl, _, _, rfl, rfl, rfl, ?_⟩
              refine eb_test (b := !decide (beg ts (-ns.getD i 0) = beg ts (ns.getD (1 + i) 0))) (es_neI (es_fn (evc (es_vV rfl) (evc (es_vV rfl) ev0)) fun H1 e Q q => ⟨a, ts, _, rfl, ties_same e hT5, hdir _ (gm (by omega)), fun H' e' => q _ _ e' rfl⟩) (es_fn (evc (es_vV rfl) (evc (es_vV rfl) ev0)) fun H1 e Q q => ⟨a, ts, _, rfl, ties_same e hT5, hdir _ (gm (by omega)), fun H' e' => q _ _ e' rfl⟩)) _ (Same.refl _) _ fun G5 f5 => ?_
              have d5 := (Same.trans sT f5) _ _ dD
              by_cases hb : beg ts (-ns.getD i 0) = beg ts (ns.getD (1 + i) 0)
              · rw [decide_eq_true hb]
                refine ⟨Same.trans (Same.trans g2 sT) f5, m, Nat.le_succ_of_le hm, d5, hiff.trans ⟨fun h j hj => ?_, fun h j hj => h j (by omega)⟩⟩
                by_cases hji : j = i
                · subst hji
                  rw [Nat.add_comm]
                  exact hb
                · exact h j (by omega)
              · rw [decide_eq_false hb]
                refine ⟨_, d5, small1000 (by rw [List.length_replicate]; omega), same_mut (Same.trans (Same.trans g2 sT) f5) hD, m + 1, by omega, by rw [upd_same, List.replicate_succ'], ⟨fun z => absurd z (Nat.succ_ne_zero _), fun h => ?_⟩⟩
                have := h i (Nat.lt_succ_self _)
                rw [Nat.add_comm] at this
                exact absurd this hb
            · obtain ⟨g2, m, hm, dD, hiff⟩ := p
              refine q _ _ (Same.trans f2 g2) ?_
              have := lstD_of (K := K) dD fun y hy => ⟨some 1, by rw [(List.mem_replicate.mp hy).2]; exact .int 1⟩
              rwa [show (List.replicate m (V.int 1)).isEmpty = nx ts ns from ?_] at this
              rw [Bool.eq_iff_iff, nx_iff]
              constructor
              · intro z j hj
                refine hiff.mp ?_ j (by omega)
                cases m with
                | zero => rfl
                | succ m => cases z
              · intro h
                rw [hiff.mpr fun j hj => h j (by omega)]
                rfl
          refine es_ret (P := IsV (.bl (nx ts ns))) (es_eqNil lc) fun v H' e ev => ?_
          subst ev
          rw [← hB]
          exact k H' (Same.trans e13 e)
theorem cl__law_is_road (T : Txt K mg) : Cl P w K mg base 3 "_law_is_road" (spIsRoadL K) := by
  obtain ⟨f, fd, F, hm, hb⟩ := T.f__law_is_road
  exact cl_of (ok__law_is_road F T) hm F.kp hb
/-! values near a road, as the law draws them -/
abbrev IsVR (K : PySem.W.Frag) : V → Hp → Prop := fun v H => ∃ o, VaR K H v o
theorem isvr_same : ∀ (v : V) (H H1 : Hp), Same H H1 → IsVR K v H → IsVR K v H1 := fun v H H1 e ⟨o, h⟩ => ⟨o, var_same e h⟩
theorem var_ints {H : Hp} {a : Addr} {ns : List Int} (h : SqT K H a (ns.map V.int)) (hz : ns.length ≤ 1000) : VaR K H (.ref a) (some (ns.map some)) := .tup h (by rw [List.length_map, List.length_map]) (by rw [List.length_map]; exact hz) fun j x o hx ho => by
  rw [List.getElem?_map] at hx ho
  cases q : ns[j]? with
  | none => rw [q] at hx; cases hx
  | some i =>
    rw [q] at hx ho
    cases hx
    cases ho
    exact .int i
section
variable {σ : L2.St} {H : Hp}
theorem vrI {te : TE} {ns : List Int} (h : EvS te σ H (IsI K ns)) (hz : ns.length ≤ 1000) : EvS te σ H (IsVR K) := es_imp h fun v H' e ⟨a, ev, ha⟩ => by
  subst ev
  exact ⟨_, var_ints ha hz⟩
theorem vr1 {te : TE} {o : Option Int} (h : EvS te σ H (fun v H' => EnR K H' v o)) : EvS (tTup (tCons te tNil)) σ H (IsVR K) := fun H1 e Q q =>
  h H1 e _ fun v H2 e2 en => ⟨by show 1 ≤ sizeLine; decide, fun p hp => q _ _ (Same.trans e2 (new_same hp)) ⟨some [o], .tup (tup_of upd_same) rfl (by show 1 ≤ 1000; decide) fun j x o' hx ho => by
    cases j with
    | zero => cases hx; cases ho; exact enr_same (new_same hp) en
    | succ j => cases hx⟩⟩
theorem vr2 {te ue : TE} {o o2 : Option Int} (h : EvS te σ H (fun v H' => EnR K H' v o)) (g : EvS ue σ H (fun v H' => EnR K H' v o2)) : EvS (tTup (tCons te (tCons ue tNil))) σ H (IsVR K) := fun H1 e Q q =>
  h H1 e _ fun v H2 e2 en => g H2 (Same.trans e e2) _ fun u H3 e3 en2 => ⟨by show 2 ≤ sizeLine; decide, fun p hp => q _ _ (Same.trans (Same.trans e2 e3) (new_same hp)) ⟨some [o, o2], .tup (tup_of upd_same) rfl (by show 2 ≤ 1000; decide) fun j x o' hx ho => by
    match j, hx, ho with
    | 0, hx, ho => cases hx; cases ho; exact enr_same (Same.trans e3 (new_same hp)) en
    | 1, hx, ho => cases hx; cases ho; exact enr_same (new_same hp) en2⟩⟩
theorem vrO {te : TE} {t : String} (h : EvS te σ H (fun v H' => TyX K H' v (.type t))) (k : kitB t "tuple" = some false) : EvS te σ H (IsVR K) := es_imp h fun v H' e ty => ⟨none, .oth ty k⟩
theorem es_t3 {ta tb tc : TE} {i j l : Int} (ha : EvS ta σ H (IsV (.int i))) (hb : EvS tb σ H (IsV (.int j))) (hc : EvS tc σ H (IsV (.int l))) : EvS (tTup (tCons ta (tCons tb (tCons tc tNil)))) σ H (IsI K [i, j, l]) := fun H1 e Q q =>
  ha H1 e _ fun v H2 e2 ev => hb H2 (Same.trans e e2) _ fun u H3 e3 eu => hc H3 (Same.trans (Same.trans e e2) e3) _ fun x H4 e4 ex => by
    subst ev
    subst eu
    subst ex
    exact ⟨by show 3 ≤ sizeLine; decide, fun p hp => q _ _ (Same.trans (Same.trans (Same.trans e2 e3) e4) (new_same hp)) ⟨p, rfl, tup_of upd_same⟩⟩
theorem es_from {i : Nat} {a : Addr} {ns : List Int} (k : Nat) (hi : σ[i]? = some (some (.ref a))) (h : SqT K H a (ns.map V.int)) : EvS (tSl (rSlA K) (tVar i) (tPart (tC (.int (k : Int)))) tNoPart) σ H (IsI K (ns.drop k)) := fun H1 e Q q =>
  ⟨.ref a, hi, (k : Int), rfl, nopart (sl_ints (same_tup e h) fun H2 p e2 hp => q _ _ e2 ⟨p, rfl, by rw [cutI_from] at hp; exact hp⟩)⟩
theorem es_to {i : Nat} {a : Addr} {ns : List Int} (k : Nat) (hi : σ[i]? = some (some (.ref a))) (h : SqT K H a (ns.map V.int)) : EvS (tSl (rSlA K) (tVar i) tNoPart (tPart (tC (.int (k : Int))))) σ H (IsI K (ns.take k)) := fun H1 e Q q =>
  ⟨.ref a, hi, (k : Int), rfl, sl_ints (same_tup e h) fun H2 p e2 hp => q _ _ e2 ⟨p, rfl, by rw [cutI_to] at hp; exact hp⟩⟩
theorem es_revI {i : Nat} {a : Addr} {ns : List Int} (hi : σ[i]? = some (some (.ref a))) (h : SqT K H a (ns.map V.int)) : EvS (tRevT K (tVar i)) σ H (IsI K ns.reverse) := fun H1 e Q q =>
  ⟨.ref a, hi, a, _, rfl, same_tup e h, fun p hp => q _ _ (new_same hp) ⟨p, rfl, tup_of (by rw [upd_same, List.map_reverse])⟩⟩
theorem es_oppI {i : Nat} {a : Addr} {ns : List Int} (hi : σ[i]? = some (some (.ref a))) (h : SqT K H a (ns.map V.int)) (hz : ns.length ≤ 1000) : EvS (tFn (spOpp K) (tCons (tVar i) tNil)) σ H (IsI K (Fr.opp ns)) := es_fn (evc (es_vV hi) ev0) fun H1 e Q q => ⟨a, ns, rfl, same_tup e h, by omega, fun H' p e' hp => q _ _ e' ⟨p, rfl, hp⟩⟩
theorem es_rep_ {P : V → Hp → Prop} {te : TE} (h : EvS te σ H P) : EvS te σ H P := h
end
section
variable {σ : L2.St} {H H1 : Hp}
theorem asg_list2 {D : Ends} {ta : TA} {n i : Nat} {P : V → Hp → Prop} (h : EvA ta σ H n P) (hz : n ≤ 1000)
    (k : ∀ p vs H2, Same H H2 → H2 p = none → vs.length = n → (∀ v ∈ vs, P v H2) → D.nx (σ.set i (some (.ref p))) (upd H2 p (.lst vs))) : tAsg (tLst ta) (gName i) D σ H :=
  h H (Same.refl _) _ fun vs H1 e hn hv => ⟨Nat.le_of_lt (small1000 (by omega)), fun p hp => k p vs _ e hp hn hv⟩
theorem cat_list2 {ta : TA} {n j : Nat} {l : Addr} {xs : List V} {P : V → Hp → Prop} {Q : VK} (pp : ∀ v H H1, Same H H1 → P v H → P v H1) (h : EvA ta σ H n P) (hj : σ[j]? = some (some (.ref l))) (hl : H l = some (.lst xs)) (hx : ∀ v ∈ xs, P v H) (hz : xs.length + n ≤ 1000)
    (k : ∀ p vs H2, Same H H2 → H2 p = none → vs.length = xs.length + n → (∀ v ∈ vs, P v H2) → Q (.ref p) (upd H2 p (.lst vs))) : tOp rCat (tVar j) (tLst ta) σ H Q :=
  ⟨.ref l, hj, h H (Same.refl _) _ fun vs H1 e hn hv => ⟨Nat.le_of_lt (small1000 (by omega)), fun b hb => by
    have hlb : l ≠ b := fun q => by
      have z := e _ _ hl
      rw [q, hb] at z
      cases z
    refine ⟨l, b, xs, vs, rfl, rfl, by rw [upd_ne hlb]; exact e _ _ hl, upd_same, Nat.le_of_lt (small1000 (by omega)), fun p hp => ?_⟩
    have e2 := new_same (o := .lst vs) hb
    refine k p (xs ++ vs) _ (Same.trans e e2) hp (by rw [List.length_append, hn]) fun v hv' => ?_
    rcases List.mem_append.mp hv' with q | q
    · exact pp _ _ _ (Same.trans e e2) (hx v q)
    · exact pp _ _ _ e2 (hv v q)⟩⟩
end
def spNearW (K : PySem.W.Frag) : Sp := fun vs H Q _ => ∃ (S a r : Addr) (ts : Ts) (row : List Int), vs = [.ref S, .ref a, .ref r] ∧ Sk H (some S) ∧ TiesT K H a ts ∧ ts ≠ [] ∧ ts.length ≤ 100 ∧ SqT K H r (row.map V.int) ∧ row.length ≤ 500 ∧
  ∀ H' p xs, Rs (some S) H H' → H' p = some (.lst xs) → S ≠ p → xs.length ≤ 100 → (∀ x ∈ xs, IsVR K x H') → Q (.ref p) H'
theorem ok__law_near {f : Addr} {fd : FuncData} (F : Fun K "_law_near" "_law_near" st__law_near f fd) (T : Txt K mg) : FnOk P w K mg base CX0 3 f fd ["jar", "ties", "road"] (spNearW K) := by
  have c__law_choose : Cl P w K mg base 2 "_law_choose" (spLiked K) := cl__law_choose T
  have c__law_directed : Cl P w K mg base 1 "_law_directed" (spDirected K) := cl__law_directed T
  have c__law_back : Cl P w K mg base 1 "_law_back" (spOpp K) := cl__law_back T
  refine F.ok sc__law_near (fun vs H Q E h => ?_) (fun cdv A outer s H vs Q E hr h => ?_)
  · obtain ⟨S, a, r, ts, row, rfl, _⟩ := h
    rfl
  · obtain ⟨S, a, r, ts, row, rfl, hS, hT, hne, hz, hrow, hrl, k⟩ := h
    refine ⟨_, (pss_cons (ps_par (i := 3) (j := 4) rfl sc__law_near.nd rfl rfl (by decide) rfl rfl (pa_cons (pe_callB (kcall_len (K := K)) (by rfl) T.n_len bo_len (pa_cons (pv 1) pa_nil)) (pa_cons (pe_f c__law_choose hr (by decide) rfl (pa_cons (pv 0) (pa_cons (pe_f c__law_directed hr (by decide) rfl (pa_cons (pv 1) pa_nil)) pa_nil))) pa_nil)) (by with_unfolding_all rfl)) (pss_cons (ps_set (i := 5) sc__law_near.nd rfl (Or.inl rfl) (pe_lst (pa_cons (pv 2) (pa_cons (pe_callTy (kcall_list (K := K)) (by rfl) T.n_list bo_list (pa_cons (pv 2) pa_nil)) (pa_cons (pe_op (kop_catA (K := K)) (pv 2) (pe_tup (pa_cons (pv 4) pa_nil))) (pa_cons (pe_op (kop_catA (K := K)) (pe_tup (pa_cons (pv 4) pa_nil)) (pv 2)) (pa_cons (kpe_revT (K := K) (pv 2)) (pa_cons (pe_f c__law_back hr (by decide) rfl (pa_cons (pv 2) pa_nil)) (pa_cons (pe_tup pa_nil) (pa_cons (pe_tup (pa_cons (pe_op op_add (pv 3) pe_int) pa_nil)) (pa_cons (pe_tup (pa_cons pe_int pa_nil)) pa_nil))))))))))) (pss_cons (ps_set (i := 5) sc__law_near.nd rfl (Or.inl rfl) (pe_op op_cat (pv 5) (pe_lst (pa_cons pe_non (pa_cons pe_int (pa_cons pe_str pa_nil)))))) (pss_cons (ps_set (i := 5) sc__law_near.nd rfl (Or.inl rfl) (pe_op op_cat (pv 5) (pe_lst (pa_cons (pe_tup (pa_cons pe_bl pa_nil)) (pa_cons (pe_tup (pa_cons pe_int (pa_cons pe_non pa_nil))) (pa_cons (pe_tup (pa_cons pe_str pa_nil)) (pa_cons (pe_tup (pa_cons (pe_tup (pa_cons pe_int pa_nil)) pa_nil)) (pa_cons (pe_tup (pa_cons (pe_op op_sub (pe_op op_sub pe_int (pv 3)) pe_int) pa_nil)) (pa_cons pe_dnewK (pa_cons (pe_op (kop_catA (K := K)) (pv 2) (pe_tup (pa_cons (pv 4) (pa_cons (pe_op op_sub pe_int (pv 4)) pa_nil)))) pa_nil)))))))))) (pss_cons (ps_expr (pe_bm PySem.F.plainAttrs_list PySem.F.slot_list_append PySem.F.type_list_append mt_append (pv 5) (pa_cons (pe_tup (pa_cons (pe_op op_powG (pe_op op_powG pe_int pe_int) pe_int) pa_nil)) pa_nil))) (pss_one (ps_ret (pe_op op_cat (pv 5) (pe_lst (pa_cons (pe_slice (ksl_tupA (K := K)) (pv 2) (po_some pe_int) po_none) (pa_cons (pe_op (kop_catA (K := K)) (pe_slice (ksl_tupA (K := K)) (pv 2) po_none (po_some pe_int)) (pe_slice (ksl_tupA (K := K)) (pv 2) (po_some pe_int) po_none)) (pa_cons (pe_tup (pa_cons (pv 4) (pa_cons (pv 4) pa_nil))) (pa_cons (pe_tup (pa_cons (pv 4) (pa_cons (pe_op op_sub pe_int (pv 4)) (pa_cons (pv 4) pa_nil)))) pa_nil))))))))))))), ?_⟩
    obtain ⟨ps, t1, t2⟩ := id hT
    have tl := ties_len t2
    have dl := dirs_len ps.length
    have tp : 0 < ts.length := List.length_pos_iff.mpr hne
    refine ⟨.ref a, rfl, a, ps, rfl, .inr t1, .ref S, rfl, .ref a, rfl, a, ps, rfl, t1, by omega, fun H1 l e1 ln dl1 => ?_⟩
    have nSl : S ≠ l := sk_ne hS ln
    refine ⟨S, l, _, rfl, hS.same e1, nSl, lst_of dl1, fun z => ?_, by rw [List.length_map, dl]; omega, fun H2 j v r2 hv => ?_⟩
    · have := congrArg List.length z
      rw [List.length_map, dl, List.length_nil] at this
      omega
    · obtain ⟨t, ht, rfl⟩ : ∃ t, t ∈ dirs ps.length ∧ v = .int t := by
        obtain ⟨t, ht, rfl⟩ := List.mem_map.mp (List.mem_of_getElem? hv)
        exact ⟨t, ht, rfl⟩
      have s2 : Rs (some S) H H2 := (Rs.same hS e1).tr r2
      have hr2 := s2.tup hrow
      refine ⟨_, _, rfl, ?_⟩
      let sg : Option V → L2.St := fun x => [some (.ref S), some (.ref a), some (.ref r), some (.int (ps.length : Int)), some (.int t), x]
      have rw2 : ∀ (x : Option V) (G : Hp), Same H2 G → EvS (tVar 2) (sg x) G (IsI K row) := fun x G e => es_vT rfl (same_tup e hr2)
      have row1 : EvA _ (sg none) H2 9 (IsVR K) :=
        eva_cons isvr_same (vrI (rw2 none H2 (Same.refl _)) (by omega))
        (eva_cons isvr_same (vrO (te := tCB (rListOf K) (tCons (tVar 2) tNil)) (t := "list") (fun G e Q q => ⟨.ref r, rfl, r, _, rfl, .inr (same_tup e hr2), fun l hl => q _ _ (new_same hl) (.base (.lst upd_same))⟩) (by decide +kernel))
        (eva_cons isvr_same (vrI (es_cat (rw2 none H2 (Same.refl _)) (es_t1 (ta := tVar 4) (i := t) (es_vV rfl)) (by simp; omega)) (by simp; omega))
        (eva_cons isvr_same (vrI (es_cat (es_t1 (ta := tVar 4) (i := t) (es_vV rfl)) (rw2 none H2 (Same.refl _)) (by simp; omega)) (by simp; omega))
        (eva_cons isvr_same (vrI (es_revI (i := 2) rfl hr2) (by rw [List.length_reverse]; omega))
        (eva_cons isvr_same (vrI (es_oppI (i := 2) rfl hr2 (by omega)) (by rw [Fr.opp_len]; omega))
        (eva_cons isvr_same (vrI es_t0 (by simp))
        (eva_cons isvr_same (vrI (es_t1 (es_i0 (f := fun i j => V.int (i + j)) (i := (ps.length : Int)) (j := 1) (ta := tVar 3) (es_vV rfl) es_cV)) (by simp))
        (eva_cons isvr_same (vrI (es_t1 (i := 0) es_cV) (by simp)) eva_nil))))))))
      refine asg_list2 row1 (by decide) fun p1 vs1 G1 g1 f1 l1 i1 => ?_
      have g1' := new_same (o := .lst vs1) f1
      have i1' : ∀ v ∈ vs1, IsVR K v (upd G1 p1 (.lst vs1)) := fun v hv => isvr_same _ _ _ g1' (i1 v hv)
      have d1 : upd G1 p1 (.lst vs1) p1 = some (.lst vs1) := upd_same
      have h1 := Same.trans g1 g1'
      generalize upd G1 p1 (.lst vs1) = B1 at i1' d1 h1
      have row2 : EvA _ (sg (some (.ref p1))) B1 3 (IsVR K) :=
        eva_cons isvr_same (vrO (te := tC .non) (t := "NoneType") (evs_c fun _ _ => .base .non) (by decide +kernel))
        (eva_cons isvr_same (vrO (te := tC (.int 5)) (t := "int") (evs_c fun _ _ => .base (.int 5)) (by decide +kernel))
        (eva_cons isvr_same (vrO (te := tC (.str "road")) (t := "str") (evs_c fun _ _ => .base (.str _)) (by decide +kernel)) eva_nil))
      refine cat_list2 isvr_same row2 rfl d1 i1' (by omega) fun p2 vs2 G2 g2 f2 l2 i2 => ?_
      have g2' := new_same (o := .lst vs2) f2
      have i2' : ∀ v ∈ vs2, IsVR K v (upd G2 p2 (.lst vs2)) := fun v hv => isvr_same _ _ _ g2' (i2 v hv)
      have d2 : upd G2 p2 (.lst vs2) p2 = some (.lst vs2) := upd_same
      have h2 := Same.trans h1 (Same.trans g2 g2')
      generalize upd G2 p2 (.lst vs2) = B2 at i2' d2 h2
      have row3 : EvA _ (sg (some (.ref p2))) B2 7 (IsVR K) :=
        eva_cons isvr_same (vr1 (o := none) (evs_c fun _ _ => .bl true))
        (eva_cons isvr_same (vr2 (o := some 1) (o2 := none) (evs_c fun _ _ => .int 1) (evs_c fun _ _ => .non))
        (eva_cons isvr_same (vr1 (o := none) (te := tC (.str "1")) (evs_c fun _ _ => .str _ (by decide +kernel)))
        (eva_cons isvr_same (vr1 (o := none) (te := tTup (tCons (tC (.int 1)) tNil)) (es_imp (es_t1 (K := K) (ta := tC (.int 1)) (i := 1) es_cV) fun v H' e ⟨a, ev, ha⟩ => by subst ev; exact .tup ha))
        (eva_cons isvr_same (vrI (es_t1 (es_i0 (f := fun i j => V.int (i - j)) (i := 0 - (ps.length : Int)) (j := 1) (es_i0 (f := fun i j => V.int (i - j)) (tb := tVar 3) (i := 0) (j := (ps.length : Int)) es_cV (es_vV rfl)) es_cV)) (by simp))
        (eva_cons isvr_same (vrO (te := tDNewK) (t := "dict") (fun G e Q q => fun d hd => q _ _ (new_same hd) (.base (.dK upd_same))) (by decide +kernel))
        (eva_cons isvr_same (vrI (es_cat (rw2 _ B2 h2) (es_t2 (ta := tVar 4) (i := t) (j := 0 - t) (es_vV rfl) (es_i0 (f := fun i j => V.int (i - j)) (tb := tVar 4) (i := 0) (j := t) es_cV (es_vV rfl))) (by simp; omega)) (by simp; omega)) eva_nil))))))
      refine cat_list2 isvr_same row3 rfl d2 i2' (by omega) fun p3 vs3 G3 g3 f3 l3 i3 => ?_
      have d3 : upd G3 p3 (.lst vs3) p3 = some (.lst vs3) := upd_same
      refine ⟨.ref p3, rfl, .inl ⟨rfl, _, SqL.of d3⟩, _, _, rfl, rfl, ⟨by decide, by decide +kernel⟩, _, _, rfl, rfl, ⟨by decide, by decide +kernel⟩, by show 1 ≤ sizeLine; decide, fun q hq => ?_⟩
      have nqp : p3 ≠ q := fun z => by rw [z, ← z, d3] at hq; cases hq
      have d3q := (new_same (o := .tup [V.int (((10 : Int) ^ (35 : Int).toNat) ^ (2 : Int).toNat)]) hq) _ _ d3
      refine ⟨p3, vs3, _, rfl, rfl, d3q, small1000 (by omega), ?_⟩
      have eC : Same G3 (upd (upd (upd G3 p3 (.lst vs3)) q (.tup [V.int (((10 : Int) ^ (35 : Int).toNat) ^ (2 : Int).toNat)])) p3 (.lst (vs3 ++ [.ref q]))) := same_mut (Same.trans (new_same f3) (new_same hq)) f3
      have qC : SqT K (upd (upd (upd G3 p3 (.lst vs3)) q (.tup [V.int (((10 : Int) ^ (35 : Int).toNat) ^ (2 : Int).toNat)])) p3 (.lst (vs3 ++ [.ref q]))) q ([((10 : Int) ^ (35 : Int).toNat) ^ (2 : Int).toNat].map V.int) := tup_mutl d3q (tup_of upd_same)
      have dC : (upd (upd (upd G3 p3 (.lst vs3)) q (.tup [V.int (((10 : Int) ^ (35 : Int).toNat) ^ (2 : Int).toNat)])) p3 (.lst (vs3 ++ [.ref q]))) p3 = some (.lst (vs3 ++ [.ref q])) := upd_same
      generalize (upd (upd (upd G3 p3 (.lst vs3)) q (.tup [V.int (((10 : Int) ^ (35 : Int).toNat) ^ (2 : Int).toNat)])) p3 (.lst (vs3 ++ [.ref q]))) = C at eC qC dC
      have h3 : Same H2 C := Same.trans h2 (Same.trans g3 eC)
      have iC : ∀ v ∈ vs3 ++ [V.ref q], IsVR K v C := fun v hv => by
        rcases List.mem_append.mp hv with z | z
        · exact isvr_same _ _ _ eC (i3 v z)
        · rw [List.mem_singleton.mp z]
          exact ⟨_, var_ints qC (by simp)⟩
      have row4 : EvA _ (sg (some (.ref p3))) C 4 (IsVR K) :=
        eva_cons isvr_same (vrI (es_from 1 (i := 2) rfl (same_tup h3 hr2)) (by rw [List.length_drop]; omega))
        (eva_cons isvr_same (vrI (es_cat (es_to 1 (i := 2) rfl (same_tup h3 hr2)) (es_from 2 (i := 2) rfl (same_tup h3 hr2)) (by rw [List.length_take, List.length_drop]; omega)) (by rw [List.length_append, List.length_take, List.length_drop]; omega))
        (eva_cons isvr_same (vrI (es_t2 (ta := tVar 4) (tb := tVar 4) (i := t) (j := t) (es_vV rfl) (es_vV rfl)) (by simp))
        (eva_cons isvr_same (vrI (es_t3 (ta := tVar 4) (tc := tVar 4) (i := t) (j := 0 - t) (l := t) (es_vV rfl) (es_i0 (f := fun i j => V.int (i - j)) (tb := tVar 4) (i := 0) (j := t) es_cV (es_vV rfl)) (es_vV rfl)) (by simp)) eva_nil)))
      refine cat_list2 isvr_same row4 rfl dC iC (by rw [List.length_append, List.length_singleton]; omega) fun p4 vs4 G4 g4 f4 l4 i4 => ?_
      have h4 := Same.trans h3 g4
      have g4' := new_same (o := .lst vs4) f4
      rw [List.length_append, List.length_singleton] at l4
      exact k _ p4 vs4 (s2.tr (.same s2.s1 (Same.trans h4 g4'))) upd_same (sk_ne (s2.s1.same h4) f4) (by omega) fun x hx => isvr_same _ _ _ g4' (i4 x hx)
theorem cl__law_near (T : Txt K mg) : Cl P w K mg base 3 "_law_near" (spNearW K) := by
  obtain ⟨f, fd, F, hm, hb⟩ := T.f__law_near
  exact cl_of (ok__law_near F T) hm F.kp hb
/-! roads, tightened, gone back, begun elsewhere -/
theorem road_lt {ts : Ts} {r : List Int} {p e : Int} (h : Road ts p r e) : Lt (ts.length : Int) r := fun i hi => by
  obtain ⟨h0, h1, h2⟩ := road_dir h i hi
  exact ⟨h0, h1, h2⟩
theorem road_act {ts : Ts} : ∀ (w : List Int) {s : List Int} {p m e : Int}, Road ts p s.reverse m → Road ts m w e → Road ts p (Fr.act w s).reverse e
  | [], _, _, _, _, h, g => by
    have g : _ = _ := g
    subst g
    exact h
  | t :: w, s, p, m, e, h, g => by
    obtain ⟨hd, hb, g⟩ := g
    rw [Fr.act_cons]
    refine road_act w (s := Fr.push t s) ?_ g
    cases s with
    | nil =>
      have h : p = m := h
      subst h
      exact ⟨hd, hb, rfl⟩
    | cons x s =>
      by_cases q : x = -t
      · rw [Fr.push_eq q]
        rw [List.reverse_cons] at h
        obtain ⟨m', h1, h2⟩ := road_cut h
        obtain ⟨_, h3, _⟩ := h2
        rw [q] at h3
        rw [h3]
        exact h1
      · rw [Fr.push_on q, List.reverse_cons]
        exact road_app h ⟨hd, hb, rfl⟩
theorem road_red {ts : Ts} {r : List Int} {p e : Int} (h : Road ts p r e) : Road ts p (Fr.red r) e := road_act r (s := []) (m := p) rfl h
theorem road_opp {ts : Ts} : ∀ {r : List Int} {p e : Int}, Road ts p r e → Road ts e (Fr.opp r) p
  | [], _, _, h => by
    have h : _ = _ := h
    subst h
    rfl
  | t :: r, _, _, h => by
    rw [Fr.opp_cons]
    refine road_app (road_opp (r := r) h.2.2) ⟨h.1.neg, rfl, ?_⟩
    show beg ts (- -t) = _
    rw [Int.neg_neg]
    exact h.2.1
theorem road_rot {ts : Ts} {r : List Int} {p : Int} (h : Road ts p r p) (k : Nat) : ∃ m, Road ts m (r.drop k ++ r.take k) m := by
  obtain ⟨m, h1, h2⟩ := road_cut (r1 := r.take k) (r2 := r.drop k) (by rw [List.take_append_drop]; exact h)
  exact ⟨m, road_app h2 h1⟩
theorem red_rot (r : List Int) (k : Nat) : Fr.red (r.drop k ++ r.take k) = Fr.red (Fr.opp (r.take k) ++ Fr.red r ++ Fr.opp (Fr.opp (r.take k))) := by
  rw [Fr.opp_opp, ← Fr.red_app_l (Fr.opp (r.take k) ++ Fr.red r), Fr.red_app_r, Fr.red_app_l]
  have e : Fr.opp (r.take k) ++ r = Fr.opp (r.take k) ++ Fr.opp (Fr.opp (r.take k)) ++ r.drop k := by rw [Fr.opp_opp, List.append_assoc, List.take_append_drop]
  rw [e, ← Fr.red_app_l (Fr.opp (r.take k) ++ Fr.opp (Fr.opp (r.take k)) ++ r.drop k) (r.take k), ← Fr.red_app_l (Fr.opp (r.take k) ++ Fr.opp (Fr.opp (r.take k))) (r.drop k), Fr.red_opp_self, List.nil_append, Fr.red_app_l]
theorem ring_rot_ {n : Int} {row r : List Int} (hl : Lt n row) (k : Nat) (h : Rg.RingW (Fr.red row) r) : Rg.RingW (Fr.red (row.drop k ++ row.take k)) r := by
  rw [red_rot]
  exact Rg.ringw_turn (wd_red hl).nf h _
theorem road_nx {ts : Ts} : ∀ {r : List Int} {p e : Int}, Road ts p r e → nx ts r = true
  | [], _, _, _ => rfl
  | [_], _, _, _ => rfl
  | a :: b :: r, _, _, h => by
    show (decide (beg ts (-a) = beg ts b) && nx ts (b :: r)) = true
    rw [road_nx (r := b :: r) h.2.2, decide_eq_true h.2.2.2.1.symm]
    rfl
theorem road_isR {ts : Ts} {r : List Int} {p e : Int} (h : Road ts p r e) : roadB ts (some (r.map some)) = true := by
  show ((r.map some).all (fun o => match o with | some t => decide (IsDir ts t) | none => false) && nx ts ((r.map some).map fun o => o.getD 0)) = true
  have e1 : (r.map some).map (fun o : Option Int => o.getD 0) = r := by
    rw [List.map_map]
    exact (List.map_congr_left fun i _ => rfl).trans (List.map_id _)
  rw [e1, road_nx h, Bool.and_true, List.all_eq_true]
  intro o ho
  obtain ⟨t, ht, rfl⟩ := List.mem_map.mp ho
  exact decide_eq_true (road_dir h t ht)
/-! points of a web that hangs together; the rank -/
theorem Drawn.used {ts : Ts} {n : Nat} (d : Drawn ts n) (ht : ts ≠ []) {p : Int} (h0 : 0 ≤ p) (h1 : p < (n : Int)) : ∃ t ∈ ts, t.1 = p ∨ t.2 = p := by
  refine Classical.byContradiction fun no => ?_
  have off : ∀ t ∈ ts, t.1 ≠ p ∧ t.2 ≠ p := fun t ht => ⟨fun e => no ⟨t, ht, .inl e⟩, fun e => no ⟨t, ht, .inr e⟩⟩
  obtain ⟨t, u, rfl⟩ := List.exists_cons_of_ne_nil ht
  have r := d.rg t List.mem_cons_self
  exact d.conn.any (S := fun q => q ≠ p) r.1 r.2.1 (off t List.mem_cons_self).1 (fun u hu => ⟨fun _ => (off u hu).2, fun _ => (off u hu).1⟩) p h0 h1 rfl
def endsN (ts : Ts) : List Int := flatN ts.length (fun i => [V.int (ts.getD i (0, 0)).1, V.int (ts.getD i (0, 0)).2]) fun _ v => match v with | .int k => k | _ => 0
theorem mem_endsN {ts : Ts} {k : Int} : k ∈ endsN ts ↔ ∃ t ∈ ts, t.1 = k ∨ t.2 = k := by
  unfold endsN flatN
  rw [List.mem_flatMap]
  constructor
  · rintro ⟨i, hi, h⟩
    rw [List.mem_range] at hi
    have e : ts.getD i (0, 0) = ts[i] := by rw [List.getD_eq_getElem?_getD, List.getElem?_eq_getElem hi]; rfl
    have h : k ∈ [(ts.getD i (0, 0)).1, (ts.getD i (0, 0)).2] := h
    rw [e] at h
    refine ⟨ts[i], List.getElem_mem _, ?_⟩
    simpa [eq_comm] using h
  · rintro ⟨t, ht, h⟩
    obtain ⟨i, hi, rfl⟩ := List.mem_iff_getElem.mp ht
    have e : ts.getD i (0, 0) = ts[i] := by rw [List.getD_eq_getElem?_getD, List.getElem?_eq_getElem hi]; rfl
    refine ⟨i, List.mem_range.mpr hi, ?_⟩
    show k ∈ [(ts.getD i (0, 0)).1, (ts.getD i (0, 0)).2]
    rw [e]
    simpa [eq_comm] using h
theorem endsN_len (ts : Ts) : (endsN ts).length = 2 * ts.length := by
  have : ∀ n, (flatN n (fun i => [V.int (ts.getD i (0, 0)).1, V.int (ts.getD i (0, 0)).2]) fun _ v => match v with | .int k => k | _ => (0 : Int)).length = 2 * n := fun n => by
    induction n with
    | zero => rfl
    | succ n ih => rw [flatN_succ, List.length_append, ih]; show 2 * n + 2 = _; omega
  exact this _
theorem rng_asc (n : Nat) : (rng n).Pairwise (· < ·) := by
  unfold rng
  rw [List.pairwise_map]
  refine List.Pairwise.imp (fun h => ?_) List.pairwise_lt_range
  omega
theorem Drawn.ends {ts : Ts} {n : Nat} (d : Drawn ts n) (ht : ts ≠ []) (k : Int) : k ∈ rng n ↔ k ∈ endsN ts := by
  rw [mem_rng, mem_endsN]
  constructor
  · exact fun h => d.used ht h.1 h.2
  · rintro ⟨t, h, e⟩
    have := d.rg t h
    omega
def spPtsIn (K : PySem.W.Frag) : Sp := fun vs H Q _ => ∃ (a : Addr) (ts : Ts) (n : Nat), vs = [.ref a] ∧ TiesT K H a ts ∧ Drawn ts n ∧ ts ≠ [] ∧ ts.length ≤ 24 ∧ ∀ H' p, Same H H' → H p = none → H' p = some (.lst ((rng n).map V.int)) → Q (.ref p) H'
theorem ok_points_in {f : Addr} {fd : FuncData} (F : Fun K "points_in" "points_in" st_points_in f fd) (T : Txt K mg) : FnOk P w K mg base CX0 1 f fd ["ties"] (spPtsIn K) := by
  refine F.ok sc_points_in (fun vs H Q E h => ?_) (fun cdv A outer s H vs Q E hr h => ?_)
  · obtain ⟨a, ts, n, rfl, _⟩ := h
    rfl
  · obtain ⟨a, ts, n, rfl, h1, d, ht, hz, k⟩ := h
    refine ⟨_, (pss_one (ps_ret (pe_callB (kcr_sortedSet (w := w) rfl) (by rfl) T.n_sorted bo_sorted (pa_cons (kpe_sc2 (w := w) (own := [("pair", 1), ("point", 2)]) (vs' := [2]) rfl sc_points_in.nd (kpi_tup (K := K) (pv 0)) (blkOk_by (N := nm_points_in) (sc := defScope st_points_in) (by decide +kernel)) (by decide) ⟨fun _ _ _ _ _ => (pg_name (i := 1) sc_points_in.nd rfl (by first | exact Or.inl rfl | exact Or.inr rfl)), fun _ _ _ _ _ => (kpi_tup (K := K) (pv 1)), fun _ _ _ _ _ => (pg_name (i := 2) sc_points_in.nd rfl (by first | exact Or.inl rfl | exact Or.inr rfl)), fun _ _ _ _ _ => (pv 2)⟩) pa_nil)))), ?_⟩
    obtain ⟨ps, h2, h3⟩ := id h1
    have hl := ties_len h3
    refine es_ret (P := NewL H ((rng n).map V.int)) (es_sortedI (L := endsN ts) (es_imp (es_sc2 (xs := ps) (fun i => [V.int (ts.getD i (0, 0)).1, V.int (ts.getD i (0, 0)).2]) (fun _ v => match v with | .int k => k | _ => 0) (fun i => [some (.ref a), ps[i]?, none]) (fun i z => [some (.ref a), ps[i]?, some z]) (ei_tup (es_seqT rfl h2)) ?_ (fun i x hx H' Q q => ?_) (fun i hi => rfl) (fun i x hx => ?_) (fun i hi z hz H' Q q => q) (fun i hi z hz => rfl) fun i hi z hz => ?_) fun v H' e p => ?_) ?_ (rng_asc n) (d.ends ht)) fun v H' e ⟨D, ev, dD, nD⟩ => ?_
    · rw [hl]
      exact Nat.le_trans (Nat.le_of_eq (endsN_len ts)) (by omega)
    · rw [hx] at q
      exact q
    · obtain ⟨p, rfl, hp⟩ := dpa_at h3 hx
      exact ej_tup (by show some ps[i]? = _; rw [hx]) hp
    · rcases List.mem_cons.mp hz with e | hz
      · subst e
        exact es_vV rfl
      · rw [List.mem_singleton.mp hz]
        exact es_vV rfl
    · rw [hl] at p
      exact p
    · rw [endsN_len]; omega
    · subst ev
      exact k H' D e nD dD
theorem cl_points_in (T : Txt K mg) : Cl P w K mg base 1 "points_in" (spPtsIn K) := by
  obtain ⟨f, fd, F, hm, hb⟩ := T.f_points_in
  exact cl_of (ok_points_in F T) hm F.kp hb
theorem rng_len (n : Nat) : (rng n).length = n := by unfold rng; rw [List.length_map, List.length_range]
def spRankT (K : PySem.W.Frag) : Sp := fun vs H Q _ => ∃ (a : Addr) (ts : Ts) (n : Nat), vs = [.ref a] ∧ TiesT K H a ts ∧ Drawn ts n ∧ ts ≠ [] ∧ ts.length ≤ 24 ∧ ∀ H', Same H H' → Q (.int ((ts.length : Int) - n + 1)) H'
theorem newL_list {σ : L2.St} {H : Hp} {te : TE} {xs : List V} (h : EvS te σ H (NewL H xs)) : EvS te σ H (fun v H' => ∃ a, v = .ref a ∧ SqL K H' a xs) := es_imp h fun v H' e ⟨D, ev, d, _⟩ => ⟨D, ev, lst_of d⟩
theorem es_ptsIn {σ : L2.St} {H : Hp} {te : TE} {a : Addr} {ts : Ts} {n : Nat} (h : EvS te σ H (IsV (.ref a))) (hT : TiesT K H a ts) (d : Drawn ts n) (ht : ts ≠ []) (hz : ts.length ≤ 24) : EvS (tFn (spPtsIn K) (tCons te tNil)) σ H (NewL H ((rng n).map V.int)) :=
  es_fn (evc h ev0) fun H1 e Q q => ⟨a, ts, n, rfl, ties_same e hT, d, ht, hz, fun H' p e' np dp => q _ _ e' ⟨p, rfl, dp, Same.free e np⟩⟩
theorem ok_rank_of_ties {f : Addr} {fd : FuncData} (F : Fun K "rank_of_ties" "rank_of_ties" st_rank_of_ties f fd) (T : Txt K mg) : FnOk P w K mg base CX0 2 f fd ["ties"] (spRankT K) := by
  have c_points_in : Cl P w K mg base 1 "points_in" (spPtsIn K) := cl_points_in T
  refine F.ok sc_rank_of_ties (fun vs H Q E h => ?_) (fun cdv A outer s H vs Q E hr h => ?_)
  · obtain ⟨a, ts, n, rfl, _⟩ := h
    rfl
  · obtain ⟨a, ts, n, rfl, h1, d, ht, hz, k⟩ := h
    refine ⟨_, (pss_one (ps_ret (pe_op op_add (pe_op op_sub (pe_callB (kcall_len (K := K)) (by rfl) T.n_len bo_len (pa_cons (pv 0) pa_nil)) (pe_callB (kcall_len (K := K)) (by rfl) T.n_len bo_len (pa_cons (pe_f c_points_in hr (by decide) rfl (pa_cons (pv 0) pa_nil)) pa_nil))) pe_int))), ?_⟩
    obtain ⟨ps, h2, h3⟩ := id h1
    have q1 : EvS (tCB (N0.rLen K) (tCons (tVar 0) tNil)) [some (.ref a)] H (IsV (.int (ts.length : Int))) := es_as (es_lenSq (es_seqT rfl h2)) (by rw [ties_len h3])
    have q2 : EvS (tCB (N0.rLen K) (tCons (tFn (spPtsIn K) (tCons (tVar 0) tNil)) tNil)) [some (.ref a)] H (IsV (.int (n : Int))) := es_as (es_lenL (newL_list (es_ptsIn (es_vV rfl) h1 d ht hz))) (by rw [List.length_map, rng_len])
    refine es_ret (P := IsV (.int ((ts.length : Int) - n + 1))) (es_i0 (es_i0 q1 q2) es_cV) fun v H' e ev => ?_
    subst ev
    exact k H' e
theorem cl_rank_of_ties (T : Txt K mg) : Cl P w K mg base 2 "rank_of_ties" (spRankT K) := by
  obtain ⟨f, fd, F, hm, hb⟩ := T.f_rank_of_ties
  exact cl_of (ok_rank_of_ties F T) hm F.kp hb
/-! parts and pieces -/
def lo2 (x y : Int) : Int := if y < x then y else x
def hi2 (x y : Int) : Int := if y > x then y else x
def mergeP (f : Int → Int) (t : Int × Int) : Int → Int := fun p => if f p = hi2 (f t.1) (f t.2) then lo2 (f t.1) (f t.2) else f p
theorem mergeP_tie (f : Int → Int) (t : Int × Int) : mergeP f t t.1 = mergeP f t t.2 := by
  unfold mergeP hi2 lo2
  repeat' split
  all_goals omega
theorem mergeP_keep {f : Int → Int} {t : Int × Int} {x y : Int} (h : f x = f y) : mergeP f t x = mergeP f t y := by
  unfold mergeP
  rw [h]
def tieAt (ts : Ts) (c : Int) : Int × Int := ts.getD (c - 1).toNat (0, 0)
def partsF (ts : Ts) (f : Int → Int) (cs : List Int) : Int → Int := cs.foldl (fun f c => mergeP f (tieAt ts c)) f
theorem partsF_keep {ts : Ts} {x y : Int} : ∀ {cs : List Int} {f : Int → Int}, f x = f y → partsF ts f cs x = partsF ts f cs y
  | [], _, h => h
  | c :: cs, f, h => partsF_keep (cs := cs) (mergeP_keep h)
theorem partsF_tie {ts : Ts} {c : Int} : ∀ {cs : List Int} {f : Int → Int}, c ∈ cs → partsF ts f cs (tieAt ts c).1 = partsF ts f cs (tieAt ts c).2
  | [], _, h => nomatch h
  | d :: cs, f, h => by
    rcases List.mem_cons.mp h with e | h
    · subst e
      exact partsF_keep (cs := cs) (mergeP_tie f _)
    · exact partsF_tie (cs := cs) h
theorem parts_one {ts : Ts} {n : Nat} (d : Drawn ts n) {cs : List Int} (hc : ∀ i, i < ts.length → ((i : Int) + 1) ∈ cs) {p : Int} (h0 : 0 ≤ p) (h1 : p < (n : Int)) : partsF ts id cs p = partsF ts id cs 0 := by
  refine d.conn (fun q => partsF ts id cs q = partsF ts id cs 0) rfl (fun t ht => ?_) p h0 h1
  obtain ⟨i, hi, rfl⟩ := List.mem_iff_getElem.mp ht
  have e : tieAt ts ((i : Int) + 1) = ts[i] := by
    unfold tieAt
    have : ((i : Int) + 1 - 1).toNat = i := by omega
    rw [this, List.getD_eq_getElem?_getD, List.getElem?_eq_getElem hi]
    rfl
  have := partsF_tie (ts := ts) (f := id) (hc i hi)
  rw [e] at this
  rw [this]
theorem to_seq {t : TS} {D : Ends} {σ : L2.St} {H : Hp} (h : tSeq t tNext D σ H) : t D σ H := h
abbrev partsD (n : Nat) (f : Int → Int) : List (Int × Int) := (rng n).map fun p => (p, f p)
theorem partsD_find {n : Nat} {f : Int → Int} {x : Int} (h0 : 0 ≤ x) (h1 : x < (n : Int)) : ((partsD n f).find? fun p => decide (p.1 = x)).map (·.2) = some (f x) := by
  have hm : (x, f x) ∈ partsD n f := List.mem_map.mpr ⟨x, mem_rng.mpr ⟨h0, h1⟩, rfl⟩
  cases h : (partsD n f).find? fun p => decide (p.1 = x) with
  | none => exact absurd (decide_eq_true rfl) (List.find?_eq_none.mp h _ hm)
  | some q =>
    have hq := List.find?_some h
    have hq : q.1 = x := of_decide_eq_true hq
    obtain ⟨y, hy, rfl⟩ := List.mem_map.mp (List.mem_of_find?_eq_some h)
    have hq : y = x := hq
    subst hq
    rfl
theorem rng_nodup (n : Nat) : (rng n).Nodup := (rng_asc n).imp fun h e => by omega
theorem partsD_keys (n : Nat) (f : Int → Int) : (partsD n f).map (·.1) = rng n := by
  rw [List.map_map]
  exact (List.map_congr_left fun _ _ => rfl).trans (List.map_id _)
def spPartsBy (K : PySem.W.Frag) : Sp := fun vs H Q _ => ∃ (a c : Addr) (ts : Ts) (n : Nat) (cs : List Int), vs = [.ref a, .ref c] ∧ TiesT K H a ts ∧ Drawn ts n ∧ ts ≠ [] ∧ ts.length ≤ 24 ∧ SqL K H c (cs.map V.int) ∧ (∀ i ∈ cs, 1 ≤ i ∧ i ≤ (ts.length : Int)) ∧ ∀ H' d, Same H H' → H d = none → H' d = some (.dK (kvI (partsD n (partsF ts id cs)))) → Q (.ref d) H'
theorem es_tieEnd {σ : L2.St} {H : Hp} {i j : Nat} {a : Addr} {ts : Ts} {c : Int} (hi : σ[i]? = some (some (.ref a))) (hj : σ[j]? = some (some (.int c))) (hT : TiesT K H a ts) (h1 : 1 ≤ c) (h2 : c ≤ (ts.length : Int)) (k : Int) (x : Int) (hk : atI [V.int (tieAt ts c).1, V.int (tieAt ts c).2] k = some (.int x)) :
    EvS (tOp (rIxT K) (tOp (rIxT K) (tVar i) (tOp (rI0 fun i j => .int (i - j)) (tVar j) (tC (.int 1)))) (tC (.int k))) σ H (IsV (.int x)) := by
  obtain ⟨ps, t1, t2⟩ := hT
  obtain ⟨p, hp, hq⟩ := ties_at t2 (j := (c - 1).toNat) (by have := ties_len t2; omega)
  have a1 : atI ps (c - 1) = some (.ref p) := by
    have := atI_nat hp
    rwa [show (((c - 1).toNat : Nat) : Int) = c - 1 by omega] at this
  exact es_ixSq (es_imp (es_ixSq (es_seqT hi t1) (es_i0 (es_vV hj) es_cV) a1) fun v H' e ev => ⟨p, ev, same_tup e hq⟩) es_cV hk
theorem tieAt_rg {ts : Ts} {n : Nat} (d : Drawn ts n) {c : Int} (h1 : 1 ≤ c) (h2 : c ≤ (ts.length : Int)) : 0 ≤ (tieAt ts c).1 ∧ (tieAt ts c).1 < (n : Int) ∧ 0 ≤ (tieAt ts c).2 ∧ (tieAt ts c).2 < (n : Int) := by
  refine d.rg _ ?_
  unfold tieAt
  rw [List.getD_eq_getElem?_getD, List.getElem?_eq_getElem (show (c - 1).toNat < ts.length by omega)]
  exact List.getElem_mem _
theorem Drawn.pts_le {ts : Ts} {n : Nat} (d : Drawn ts n) (ht : ts ≠ []) : n ≤ 2 * ts.length := by
  have h : (rng n).length ≤ (endsN ts).length := by
    refine (rng_nodup n).length_le_of_subset fun x hx => ?_
    exact (d.ends ht x).mp hx
  rwa [rng_len, endsN_len] at h
theorem ok_parts_by {f : Addr} {fd : FuncData} (F : Fun K "parts_by" "parts_by" st_parts_by f fd) (T : Txt K mg) : FnOk P w K mg base CX0 2 f fd ["ties", "chosen"] (spPartsBy K) := by
  have c_points_in : Cl P w K mg base 1 "points_in" (spPtsIn K) := cl_points_in T
  refine F.ok sc_parts_by (fun vs H Q E h => ?_) (fun cdv A outer s H vs Q E hr h => ?_)
  · obtain ⟨a, c, ts, n, cs, rfl, _⟩ := h
    rfl
  · obtain ⟨a, c, ts, n, cs, rfl, hT, d, ht, hz, hc, hcs, k⟩ := h
    refine ⟨_, (pss_cons (ps_setDc (i := 2) (own := [("point", 8)]) rfl sc_parts_by.nd rfl rfl (swD_true rfl rfl rfl (by decide +kernel)) (kpi_list (K := K) (pe_f c_points_in hr (by decide) rfl (pa_cons (pv 0) pa_nil))) (blkOk_by (N := nm_parts_by) (sc := defScope st_parts_by) (by decide +kernel)) (fun _ _ _ _ _ => (pg_name (i := 8) sc_parts_by.nd rfl (by first | exact Or.inl rfl | exact Or.inr rfl))) (fun _ _ _ _ _ => pts_nil) (fun _ _ _ _ _ => (pv 8)) (fun _ _ _ _ _ => (pv 8))) (pss_cons (ps_for PassesOwn.never rfl (kpi_list (K := K) (pv 1)) (pg_name (i := 3) sc_parts_by.nd rfl (Or.inl rfl)) (pss_cons (ps_par (i := 4) (j := 5) rfl sc_parts_by.nd rfl rfl (by decide) rfl rfl (pa_cons (pe_dget (hu_of hr) (pv 2) (pe_ix (kix_tup (K := K)) (pe_ix (kix_tup (K := K)) (pv 0) (pe_op op_sub (pv 3) pe_int) (fun _ _ => rfl)) pe_int (fun _ _ => rfl)) (fun _ _ => rfl)) (pa_cons (pe_dget (hu_of hr) (pv 2) (pe_ix (kix_tup (K := K)) (pe_ix (kix_tup (K := K)) (pv 0) (pe_op op_sub (pv 3) pe_int) (fun _ _ => rfl)) pe_int (fun _ _ => rfl)) (fun _ _ => rfl)) pa_nil)) (by with_unfolding_all rfl)) (pss_cons (ps_asg (pe_tup (pa_cons (pe_callB (call_min2 rfl) (by rfl) T.n_min bo_min (pa_cons (pv 4) (pa_cons (pv 5) pa_nil))) (pa_cons (pe_callB (call_max2 rfl) (by rfl) T.n_max bo_max (pa_cons (pv 4) (pa_cons (pv 5) pa_nil))) pa_nil))) (kpg_tup (K := K) (n := 2) rfl (pgs_cons (pg_name (i := 6) sc_parts_by.nd rfl (Or.inr rfl)) (pgs_cons (pg_name (i := 7) sc_parts_by.nd rfl (Or.inr rfl)) pgs_nil)))) (pss_one (ps_lock (ps_setDc (i := 2) (own := [("point", 8), ("part", 9)]) rfl sc_parts_by.nd rfl rfl (swD_true rfl rfl rfl (by decide +kernel)) (pi_items (pv 2)) (blkOk_by (N := nm_parts_by) (sc := defScope st_parts_by) (by decide +kernel)) (fun _ _ _ _ _ => (kpg_tup (K := K) (n := 2) rfl (pgs_cons (pg_name (i := 8) sc_parts_by.nd rfl (by first | exact Or.inl rfl | exact Or.inr rfl)) (pgs_cons (pg_name (i := 9) sc_parts_by.nd rfl (by first | exact Or.inl rfl | exact Or.inr rfl)) pgs_nil)))) (fun _ _ _ _ _ => pts_nil) (fun _ _ _ _ _ => (pv 8)) (fun _ _ _ _ _ => (pe_ifExp (pt_cmpR op_eq (pv 9) (pv 7) (nomark _)) (pv 6) (pv 9))))))))) (pss_one (ps_ret (pv 2))))), ?_⟩
    refine asg_seq (es_dcI (g := gName 8) (vs := [8]) (ns := rng n) (fun i => i) (fun i => [some (.ref a), some (.ref c), none, none, none, none, none, none, some (.int i), none]) (ei_list (newL_list (es_ptsIn (es_vV rfl) hT d ht hz))) (rng_nodup n) (by have := d.pts_le ht; rw [rng_len]; omega) (fun i hi H' Q q => q) (fun i hi => rfl) (fun i hi => es_vV rfl) fun i hi => es_vV rfl) fun v H1 e1 ⟨d0, ev, hd0, nd0⟩ => ?_
    subst ev
    refine ⟨.ref c, rfl, c, rfl, ⟨_, same_lst e1 hc⟩, for_list (K := K) (a := c) (xs := cs.map V.int) (fun i σ H' => Same H H' ∧ ∃ dd, H' dd = some (.dK (kvI (partsD n (partsF ts id (cs.take i))))) ∧ H dd = none ∧ ∃ x3 x4 x5 x6 x7, σ = [some (.ref a), some (.ref c), some (.ref dd), x3, x4, x5, x6, x7, none, none]) ⟨e1, d0, hd0, nd0, none, none, none, none, none, rfl⟩ (fun i σ H' hi p => same_lst p.1 hc) (fun i x σ H' hx p => ?_) fun σ H' p => ?_⟩
    · obtain ⟨e2, dd, hdd, ndd, x3, x4, x5, x6, x7, rfl⟩ := p
      have hi : i < cs.length := by
        have := (List.getElem?_eq_some_iff.mp hx).1
        rwa [List.length_map] at this
      rw [List.getElem?_map, List.getElem?_eq_getElem hi] at hx
      cases hx
      obtain ⟨c1, c2⟩ := hcs _ (List.getElem_mem hi)
      obtain ⟨r1, r2, r3, r4⟩ := tieAt_rg d c1 c2
      have hT2 := ties_same e2 hT
      generalize hff : partsF ts id (cs.take i) = ff at hdd
      have enext : partsF ts id (cs.take (i + 1)) = mergeP ff (tieAt ts cs[i]) := by
        rw [List.take_succ, List.getElem?_eq_getElem hi, ← hff]
        show partsF ts id (cs.take i ++ [cs[i]]) = _
        unfold partsF
        rw [List.foldl_append]
        rfl
      generalize hcc : cs[i] = cc at *
      let σ1 : L2.St := [some (.ref a), some (.ref c), some (.ref dd), some (.int cc), x4, x5, x6, x7, none, none]
      have g1 : EvS (tDGet (tVar 2) (tOp (rIxT K) (tOp (rIxT K) (tVar 0) (tOp (rI0 fun i j => .int (i - j)) (tVar 3) (tC (.int 1)))) (tC (.int 0)))) σ1 H' (IsV (.int (ff (tieAt ts cc).1))) := es_dgI hdd (es_vV rfl) (es_tieEnd (i := 0) (j := 3) rfl rfl hT2 c1 c2 0 _ rfl) (partsD_find r1 r2)
      have g2 : EvS (tDGet (tVar 2) (tOp (rIxT K) (tOp (rIxT K) (tVar 0) (tOp (rI0 fun i j => .int (i - j)) (tVar 3) (tC (.int 1)))) (tC (.int 1)))) σ1 H' (IsV (.int (ff (tieAt ts cc).2))) := es_dgI hdd (es_vV rfl) (es_tieEnd (i := 0) (j := 3) rfl rfl hT2 c1 c2 1 _ rfl) (partsD_find r3 r4)
      generalize hu : ff (tieAt ts cc).1 = u at g1
      generalize hw : ff (tieAt ts cc).2 = w' at g2
      refine par_seq (σ := σ1) g1 g2 fun H2 f2 => ?_
      refine pair_seq (es_min2 (es_vV rfl) (es_vV rfl)) (es_max2 (es_vV rfl) (es_vV rfl)) fun H3 f23 => ?_
      have f3 : Same H' H3 := Same.trans f2 f23
      refine to_seq (dcItems_seq (K := K) (i := 2) (a := 8) (b := 9) (d := dd) (ps := partsD n ff) (fun k v => if v = hi2 u w' then lo2 u w' else v) (fun k v => [some (.ref a), some (.ref c), some (.ref dd), some (.int cc), some (.int u), some (.int w'), some (.int (lo2 u w')), some (.int (hi2 u w')), some (.int k), some (.int v)]) rfl (f3 _ _ hdd) (by rw [partsD_keys]; exact rng_nodup n) (by rw [List.length_map, rng_len]; have := d.pts_le ht; omega) (fun k v => rfl) (fun k v => rfl) (fun k v => rfl) (fun k v => ?_) fun D' H4 f4 hD' nD' => ?_)
      · refine es_imp (es_if (P := IsV (.int (if v = hi2 u w' then lo2 u w' else v))) (eb_test (es_eqI (es_vV rfl) (es_vV rfl))) (fun hb => ?_) fun hb => ?_) fun _ _ _ h => h
        · rw [if_pos (of_decide_eq_true hb)]
          exact es_vV rfl
        · rw [if_neg (of_decide_eq_false hb)]
          exact es_vV rfl
      · refine ⟨Same.trans (Same.trans e2 f3) f4, D', ?_, Same.free (Same.trans e2 f3) nD', _, _, _, _, _, rfl⟩
        rw [hD', enext]
        show some (HO.dK (kvI (((rng n).map fun p => (p, ff p)).map fun p => (p.1, if p.2 = hi2 u w' then lo2 u w' else p.2)))) = _
        rw [List.map_map, ← hu, ← hw]
        rfl
    · obtain ⟨e2, dd, hdd, ndd, x3, x4, x5, x6, x7, rfl⟩ := p
      rw [List.length_map, List.take_length] at hdd
      exact ⟨.ref dd, rfl, k H' dd e2 ndd hdd⟩
theorem cl_parts_by (T : Txt K mg) : Cl P w K mg base 2 "parts_by" (spPartsBy K) := by
  obtain ⟨f, fd, F, hm, hb⟩ := T.f_parts_by
  exact cl_of (ok_parts_by F T) hm F.kp hb
theorem putK_nil {k : Key} {v : V} : putK ([] : List (Key × V)) k v = [(k, v)] := rfl
theorem part_at {ts : Ts} {n : Nat} (d : Drawn ts n) {cs : List Int} (hall : ∀ i, i < ts.length → ((i : Int) + 1) ∈ cs) {c : Int} (h1 : 1 ≤ c) (h2 : c ≤ (ts.length : Int)) : ((partsD n (partsF ts id cs)).find? fun p => decide (p.1 = (tieAt ts c).1)).map (·.2) = some (partsF ts id cs 0) := by
  obtain ⟨r1, r2, _, _⟩ := tieAt_rg d h1 h2
  rw [partsD_find r1 r2, parts_one d hall r1 r2]
def spPieces1 (K : PySem.W.Frag) : Sp := fun vs H Q _ => ∃ (a c : Addr) (ts : Ts) (n : Nat) (cs : List Int), vs = [.ref a, .ref c] ∧ TiesT K H a ts ∧ Drawn ts n ∧ ts ≠ [] ∧ ts.length ≤ 24 ∧ SqL K H c (cs.map V.int) ∧ cs.length ≤ 1000 ∧ cs ≠ [] ∧ (∀ i ∈ cs, 1 ≤ i ∧ i ≤ (ts.length : Int)) ∧ (∀ i, i < ts.length → ((i : Int) + 1) ∈ cs) ∧ ∀ H' q x, Same H H' → SqT K H' q [x] → Q (.ref q) H'
theorem ok_pieces_in {f : Addr} {fd : FuncData} (F : Fun K "pieces_in" "pieces_in" st_pieces_in f fd) (T : Txt K mg) : FnOk P w K mg base CX0 3 f fd ["ties", "chosen"] (spPieces1 K) := by
  have c_parts_by : Cl P w K mg base 2 "parts_by" (spPartsBy K) := cl_parts_by T
  refine F.ok sc_pieces_in (fun vs H Q E h => ?_) (fun cdv A outer s H vs Q E hr h => ?_)
  · obtain ⟨a, c, ts, n, cs, rfl, _⟩ := h
    rfl
  · obtain ⟨a, c, ts, n, cs, rfl, hT, d, ht, hz, hc, hcz, hne, hcs, hall, k⟩ := h
    refine ⟨_, (pss_cons (ps_set (i := 2) sc_pieces_in.nd rfl (Or.inl rfl) (pe_f c_parts_by hr (by decide) rfl (pa_cons (pv 0) (pa_cons (pv 1) pa_nil)))) (pss_cons (ps_set (i := 3) sc_pieces_in.nd rfl (Or.inl rfl) pe_dnewK) (pss_cons (ps_for PassesOwn.never rfl (kpi_list (K := K) (pv 1)) (pg_name (i := 4) sc_pieces_in.nd rfl (Or.inl rfl)) (pss_one (ps_expr (pe_bm PySem.F.plainAttrs_list PySem.F.slot_list_append PySem.F.type_list_append mt_append (pe_dsetd (pv 3) (pe_dget (hu_of hr) (pv 2) (pe_ix (kix_tup (K := K)) (pe_ix (kix_tup (K := K)) (pv 0) (pe_op op_sub (pv 4) pe_int) (fun _ _ => rfl)) pe_int (fun _ _ => rfl)) (fun _ _ => rfl)) (pe_lst pa_nil) ⟨rfl, rfl, rfl, rfl⟩) (pa_cons (pv 4) pa_nil))))) (pss_one (ps_ret (pe_callTy (kcall_tuple (K := K)) (by rfl) T.n_tuple bo_tuple (pa_cons (pe_lock (pe_lc (own := [("piece", 5)]) rfl sc_pieces_in.nd (pi_values (pv 3)) (blkOk_by (N := nm_pieces_in) (sc := defScope st_pieces_in) (by decide +kernel)) (fun _ _ _ _ _ => (pg_name (i := 5) sc_pieces_in.nd rfl (by first | exact Or.inl rfl | exact Or.inr rfl))) (fun _ _ _ _ _ => pts_nil) (fun _ _ _ _ _ => (pe_callTy (kcall_tuple (K := K)) (by rfl) T.n_tuple bo_tuple (pa_cons (pv 5) pa_nil))))) pa_nil))))))), ?_⟩
    refine asg_seq (P := fun v H' => ∃ dd, v = .ref dd ∧ H' dd = some (.dK (kvI (partsD n (partsF ts id cs)))) ∧ H dd = none) (es_fn (evc (es_vV rfl) (evc (es_vV rfl) ev0)) fun H1 e Q q => ⟨a, c, ts, n, cs, rfl, ties_same e hT, d, ht, hz, same_lst e hc, hcs, fun H' dd e' nd hd => q _ _ e' ⟨dd, rfl, hd, Same.free e nd⟩⟩) fun v H1 e1 ⟨dd, ev, hdd, ndd⟩ => ?_
    subst ev
    refine fun pd hpd => ?_
    have npd : H pd = none := Same.free e1 hpd
    have ndp : dd ≠ pd := fun z => by rw [z] at hdd; rw [hdd] at hpd; cases hpd
    have hT1 := ties_same e1 hT
    generalize hk0 : partsF ts id cs 0 = k0
    refine ⟨.ref c, rfl, c, rfl, ⟨_, same_lst (Same.trans e1 (new_same hpd)) hc⟩, for_list (K := K) (a := c) (xs := cs.map V.int) (fun i σ H' => Same H1 H' ∧ ((i = 0 ∧ H' pd = some (.dK [])) ∨ ∃ l, H' pd = some (.dK [(Sum.inl k0, .ref l)]) ∧ H' l = some (.lst ((cs.take i).map V.int)) ∧ H1 l = none ∧ l ≠ pd) ∧ ∃ x4, σ = [some (.ref a), some (.ref c), some (.ref dd), some (.ref pd), x4, none]) ⟨new_same hpd, .inl ⟨rfl, upd_same⟩, none, rfl⟩ (fun i σ H' hi p => same_lst (Same.trans e1 p.1) hc) (fun i x σ H' hx p => ?_) fun σ H' p => ?_⟩
    · obtain ⟨e2, hp, x4, rfl⟩ := p
      have hi : i < cs.length := by
        have := (List.getElem?_eq_some_iff.mp hx).1
        rwa [List.length_map] at this
      rw [List.getElem?_map, List.getElem?_eq_getElem hi] at hx
      cases hx
      obtain ⟨c1, c2⟩ := hcs _ (List.getElem_mem hi)
      have et : cs.take (i + 1) = cs.take i ++ [cs[i]] := by
        rw [List.take_succ, List.getElem?_eq_getElem hi]
        rfl
      have hil : (cs.take i).length ≤ 1000 := by rw [List.length_take]; omega
      generalize hcc : cs[i] = cc at *
      have g1 : EvS (tDGet (tVar 2) (tOp (rIxT K) (tOp (rIxT K) (tVar 0) (tOp (rI0 fun i j => .int (i - j)) (tVar 4) (tC (.int 1)))) (tC (.int 0)))) [some (.ref a), some (.ref c), some (.ref dd), some (.ref pd), some (.int cc), none] H' (IsV (.int k0)) := es_dgI (e2 _ _ hdd) (es_vV rfl) (es_tieEnd (i := 0) (j := 4) rfl rfl (ties_same e2 hT1) c1 c2 0 _ rfl) (by rw [part_at d hall c1 c2, hk0])
      have hisd : L2.IsD H' pd := by
        rcases hp with ⟨_, hp⟩ | ⟨l, hp, _⟩
        · exact .inl ⟨_, .inl hp⟩
        · exact .inl ⟨_, .inl hp⟩
      refine ⟨.ref pd, rfl, pd, rfl, hisd, g1 _ (Same.refl _) _ fun y H2 f2 ey => ⟨Nat.zero_le _, fun z hz => ?_⟩⟩
      have f3 : Same H' (upd H2 z (.lst [])) := Same.trans f2 (new_same hz)
      have fin : ∀ (l : Addr) (G : Hp), Same H1 G → G pd = some (.dK [(Sum.inl k0, .ref l)]) → G l = some (.lst ((cs.take i).map V.int)) → H1 l = none → l ≠ pd →
          (tyV K "list" (V.ref l) G ∧ (tCons (tVar 4) tNil) [some (.ref a), some (.ref c), some (.ref dd), some (.ref pd), some (.int cc), none] G fun xs G' => rAppend (.ref l) xs G' fun v G'' => (Same H1 G'' ∧ ((i + 1 = 0 ∧ G'' pd = some (.dK [])) ∨ ∃ l, G'' pd = some (.dK [(Sum.inl k0, .ref l)]) ∧ G'' l = some (.lst ((cs.take (i + 1)).map V.int)) ∧ H1 l = none ∧ l ≠ pd) ∧ ∃ x4, [some (V.ref a), some (.ref c), some (.ref dd), some (.ref pd), some (.int cc), none] = [some (.ref a), some (.ref c), some (.ref dd), some (.ref pd), x4, none])) := fun l G s1 p1 p2 p3 p4 => by
        refine ⟨.inl ⟨rfl, _, lst_of p2⟩, _, rfl, l, _, _, rfl, rfl, p2, small1000 (by rw [List.length_map]; exact hil), same_mut s1 p3, .inr ⟨l, ?_, ?_, p3, p4⟩, _, rfl⟩
        · rw [upd_ne (Ne.symm p4)]
          exact p1
        · rw [upd_same, et, List.map_append]
          rfl
      rcases hp with ⟨hi0, hp⟩ | ⟨l, hp, hl, nl, nlp⟩
      · have q3 : upd H2 z (.lst []) pd = some (.dK []) := f3 _ _ hp
        have nz : z ≠ pd := fun q => by rw [q, f2 _ _ hp] at hz; cases hz
        refine ⟨[], Sum.inl k0, q3, ey, by decide, (fun v hv => nomatch hv), fun _ => ?_⟩
        rw [putK_nil]
        refine fin z _ (same_mut (Same.trans e2 f3) hpd) upd_same ?_ (Same.free (Same.trans e2 f2) hz) nz
        rw [upd_ne nz, upd_same, hi0]
        rfl
      · have q3 : upd H2 z (.lst []) pd = some (.dK [(Sum.inl k0, .ref l)]) := f3 _ _ hp
        have hv : valV [((Sum.inl k0 : Key), V.ref l)] (Sum.inl k0) = some (.ref l) := valV_pos rfl
        refine ⟨_, Sum.inl k0, q3, ey, (by show 1 < sizeLine; decide), fun v q => ?_, fun q => by rw [hv] at q; cases q⟩
        rw [hv] at q
        cases q
        exact fin l _ (Same.trans e2 f3) q3 (f3 _ _ hl) nl nlp
    · obtain ⟨e2, hp, x4, rfl⟩ := p
      rw [List.length_map] at hp
      rcases hp with ⟨h0, _⟩ | ⟨l, hp, hl, nl, nlp⟩
      · exact absurd (List.eq_nil_of_length_eq_zero h0) hne
      rw [List.take_length] at hl
      refine ⟨pd, _, hp, True.intro, fun od => ⟨.ref pd, rfl, pd, od, _, rfl, upd_same, fun D hD => ?_⟩⟩
      have nDp : D ≠ pd := fun z => by rw [z, upd_same] at hD; cases hD
      have hD0 : H' D = none := by rwa [upd_ne nDp] at hD
      refine lc_it (walk_values (d := pd) (o := od)) (fun i G => Same (upd H' pd (.frz od (.dK [(Sum.inl k0, V.ref l)]))) G ∧ ∃ ys : List V, G D = some (.lst ys) ∧ ys.length = i) ⟨new_same hD, [], upd_same, rfl⟩ (fun i G _ p => p.1 _ _ upd_same) (fun i x G G' hi p y => ?_) fun G p => ?_
      · obtain ⟨s1, ys, dD, yl⟩ := p
        obtain ⟨rfl, k', hk'⟩ := y
        have hi : i < 1 := hi
        have : i = 0 := by omega
        subst this
        cases hk'
        have hl2 : G' l = some (.lst (cs.map V.int)) := s1 _ _ (by rw [upd_ne nlp]; exact hl)
        refine ⟨rfl, .ref l, rfl, l, _, rfl, .inl ⟨lst_of hl2, fun q hq => ⟨ys, (new_same hq) _ _ dD, by rw [yl]; decide, same_mut (Same.trans s1 (new_same hq)) hD, _, upd_same, by rw [List.length_append, yl]; rfl⟩⟩⟩
      · obtain ⟨s1, ys, dD, yl⟩ := p
        have yl : ys.length = 1 := yl
        obtain ⟨x, rfl⟩ : ∃ x, ys = [x] := by
          match ys, yl with
          | [x], _ => exact ⟨x, rfl⟩
        have s2 : Same H1 (upd G pd (.dK [(Sum.inl k0, V.ref l)])) := fun b o hb => by
          have nb : b ≠ pd := fun z => by rw [z, hpd] at hb; cases hb
          rw [upd_ne nb]
          exact s1 _ _ (by rw [upd_ne nb]; exact e2 _ _ hb)
        refine ⟨s1 _ _ upd_same, D, [x], rfl, .inl ⟨lst_of (by rw [upd_ne nDp]; exact dD), fun q hq => ?_⟩⟩
        exact k _ q x (Same.trans (Same.trans e1 s2) (new_same hq)) (tup_of upd_same)
theorem cl_pieces_in (T : Txt K mg) : Cl P w K mg base 3 "pieces_in" (spPieces1 K) := by
  obtain ⟨f, fd, F, hm, hb⟩ := T.f_pieces_in
  exact cl_of (ok_pieces_in F T) hm F.kp hb
/-! is_integer, is_within -/
def spIsInt (K : PySem.W.Frag) : Sp := fun vs H Q _ => ∃ v o, vs = [v] ∧ En K H v o ∧ Q (.bl o.isSome) H
theorem ok_is_integer {f : Addr} {fd : FuncData} (F : Fun K "is_integer" "is_integer" st_is_integer f fd) (T : Txt K mg) : FnOk P w K mg base CX0 1 f fd ["value"] (spIsInt K) := by
  refine F.ok sc_is_integer (fun vs H Q E h => ?_) (fun cdv A outer s H vs Q E hr h => ?_)
  · obtain ⟨v, o, rfl, _⟩ := h
    rfl
  · obtain ⟨v, o, rfl, en, k⟩ := h
    refine ⟨_, (pss_one (ps_ret (pe_and (pe_callB (kcall_isi (K := K)) (by rfl) T.n_isinstance bo_isinstance (pa_cons (pv 0) (pa_cons (pe_bltn (by rfl) T.n_int bo_int rel_ty) pa_nil))) (pe_one (pe_not (pe_callB (kcall_isi (K := K)) (by rfl) T.n_isinstance bo_isinstance (pa_cons (pv 0) (pa_cons (pe_bltn (by rfl) T.n_bool bo_bool rel_ty) pa_nil)))))))), ?_⟩
    have key : ∀ (t : String) (i b : Bool), TyX K H v (.type t) → kitB t "int" = some i → kitB t "bool" = some b → (i && !b) = o.isSome →
        ∃ v1, (start nm_is_integer [v])[0]? = some (some v1) ∧ rIsi K [v1, .ty "int"] H fun x H1 => ∃ c, x = .bl c ∧ if c = true then (∃ v2, (start nm_is_integer [v])[0]? = some (some v2) ∧ rIsi K [v2, .ty "bool"] H1 fun x H1 => ∃ c, x = .bl c ∧ Q (.bl (!c)) H1) else Q (.bl false) H1 := fun t i b h k1 k2 e => by
      refine ⟨v, rfl, v, _, _, _, i, rfl, .ty _, h, kit_ty k1, i, rfl, ?_⟩
      cases i with
      | false =>
        rw [show o.isSome = false from e.symm] at k
        exact iteF k
      | true => exact iteT ⟨v, rfl, v, _, _, _, b, rfl, .ty _, h, kit_ty k2, b, rfl, by rw [show (!b) = o.isSome from e]; exact k⟩
    cases en with
    | int i => exact key "int" true false (.base (.int i)) (by decide +kernel) (by decide +kernel) rfl
    | oth h k1 k2 k3 => exact key _ _ _ h k1 k2 k3
theorem cl_is_integer (T : Txt K mg) : Cl P w K mg base 1 "is_integer" (spIsInt K) := by
  obtain ⟨f, fd, F, hm, hb⟩ := T.f_is_integer
  exact cl_of (ok_is_integer F T) hm F.kp hb
def spWithin : Sp := fun vs H Q _ => ∃ v l m : Int, vs = [.int v, .int l, .int m] ∧ Q (.bl (decide (l ≤ v ∧ v ≤ m))) H
theorem ok_is_within {f : Addr} {fd : FuncData} (F : Fun K "is_within" "is_within" st_is_within f fd) (T : Txt K mg) : FnOk P w K mg base CX0 2 f fd ["value", "least", "most"] spWithin := by
  have c_is_integer : Cl P w K mg base 1 "is_integer" (spIsInt K) := cl_is_integer T
  refine F.ok sc_is_within (fun vs H Q E h => ?_) (fun cdv A outer s H vs Q E hr h => ?_)
  · obtain ⟨v, l, m, rfl, _⟩ := h
    rfl
  · obtain ⟨v, l, m, rfl, k⟩ := h
    refine ⟨_, (pss_one (ps_ret (pe_and (pe_f c_is_integer hr (by decide) rfl (pa_cons (pv 0) pa_nil)) (pe_one (pe_chain op_le op_le (pv 1) (pv 0) (pv 2)))))), ?_⟩
    refine ⟨.int v, rfl, .int v, some v, rfl, .int v, true, rfl, iteT ⟨.int l, rfl, .int v, rfl, l, v, rfl, rfl, _, rfl, ?_⟩⟩
    refine ite2 (fun h1 => ⟨.int m, rfl, v, m, rfl, rfl, ?_⟩) fun h1 => ?_
    · have h1 := of_decide_eq_true h1
      have e : decide (l ≤ v ∧ v ≤ m) = decide (v ≤ m) := by simp [h1]
      rw [e] at k
      exact k
    · have h1 : ¬ l ≤ v := fun q => h1 (decide_eq_true q)
      have e : decide (l ≤ v ∧ v ≤ m) = false := by simp [h1]
      rw [e] at k
      exact k
theorem cl_is_within (T : Txt K mg) : Cl P w K mg base 2 "is_within" spWithin := by
  obtain ⟨f, fd, F, hm, hb⟩ := T.f_is_within
  exact cl_of (ok_is_within F T) hm F.kp hb
theorem es_andV {ta tb : TE} {σ : L2.St} {H : Hp} {a b : Bool} (h : EvS ta σ H (IsV (.bl a))) (g : a = true → EvS tb σ H (IsV (.bl b))) : EvS (tAndV ta tb) σ H (IsV (.bl (a && b))) := fun H1 e Q q =>
  h H1 e _ fun v H2 e2 ev => by
    subst ev
    refine ⟨a, rfl, ?_⟩
    cases a with
    | false => exact iteF (q _ _ e2 rfl)
    | true => exact iteT (g rfl H2 (Same.trans e e2) _ fun u H3 e3 eu => q u H3 (Same.trans e2 e3) eu)
theorem newL_D {te : TE} {σ : L2.St} {H : Hp} {ns : List Int} (h : EvS te σ H (NewL H (ns.map V.int))) : EvS te σ H (N0.IsD K (.list (ns.map .int))) := es_imp h fun v H' e ⟨D, ev, d, _⟩ => ev ▸ dp_list (lst_of d)
theorem rgV_rng (n : Nat) : rgV 0 (n : Int) = (rng n).map V.int := by
  unfold rgV rng
  rw [List.map_map]
  have : ((n : Int) - 0).toNat = n := by omega
  rw [this]
  refine List.map_congr_left fun i _ => ?_
  show V.int (0 + (i : Int)) = V.int (i : Int)
  rw [Int.zero_add]
def ones (n : Nat) : List Int := (List.range n).map fun i : Nat => (i : Int) + 1
theorem rgV_ones (n : Nat) : rgV 1 ((n : Int) + 1) = (ones n).map V.int := by
  unfold rgV ones
  rw [List.map_map]
  have : ((n : Int) + 1 - 1).toNat = n := by omega
  rw [this]
  refine List.map_congr_left fun i _ => ?_
  show V.int (1 + (i : Int)) = V.int ((i : Int) + 1)
  rw [Int.add_comm]
def spAreTies (K : PySem.W.Frag) : Sp := fun vs H Q _ => ∃ (a : Addr) (ts : Ts) (n : Nat), vs = [.ref a] ∧ TiesT K H a ts ∧ Drawn ts n ∧ ts ≠ [] ∧ ts.length ≤ 24 ∧ ∀ H', Same H H' → Q (.bl true) H'
theorem ok_are_ties {f : Addr} {fd : FuncData} (F : Fun K "are_ties" "are_ties" st_are_ties f fd) (T : Txt K mg) : FnOk P w K mg base CX0 4 f fd ["value"] (spAreTies K) := by
  have c_is_within : Cl P w K mg base 2 "is_within" spWithin := cl_is_within T
  have c_points_in : Cl P w K mg base 1 "points_in" (spPtsIn K) := cl_points_in T
  have c_pieces_in : Cl P w K mg base 3 "pieces_in" (spPieces1 K) := cl_pieces_in T
  refine F.ok sc_are_ties (fun vs H Q E h => ?_) (fun cdv A outer s H vs Q E hr h => ?_)
  · obtain ⟨a, ts, n, rfl, _⟩ := h
    rfl
  · obtain ⟨a, ts, n, rfl, hT, d, ht, hz, k⟩ := h
    obtain ⟨ps, t1, t2⟩ := id hT
    have tl := ties_len t2
    refine ⟨_, (pss_cons (ps_if (PW.pt (pw_or (pt_not (pt_val (pe_callB (kcall_isi (K := K)) (by rfl) T.n_isinstance bo_isinstance (pa_cons (pv 0) (pa_cons (pe_bltn (by rfl) T.n_tuple bo_tuple rel_ty) pa_nil))))) (pw_or1 (pt_not (pt_chain op_le op_le pe_int (pe_callB (kcall_len (K := K)) (by rfl) T.n_len bo_len (pa_cons (pv 0) pa_nil)) (pe_glob rfl T.c_MAX_TIES.choose_spec rel_int)))))) (pss_one (ps_ret pe_bl)) pss_nil) (pss_cons (ps_if (pt_not (pt_val (pe_callB (kcr_all (K := K) rfl) (by rfl) T.n_all bo_all (pa_cons (pe_lc (own := [("pair", 2)]) rfl sc_are_ties.nd (kpi_tup (K := K) (pv 0)) (blkOk_by (N := nm_are_ties) (sc := defScope st_are_ties) (by decide +kernel)) (fun _ _ _ _ _ => (pg_name (i := 2) sc_are_ties.nd rfl (by first | exact Or.inl rfl | exact Or.inr rfl))) (fun _ _ _ _ _ => pts_nil) (fun _ _ _ _ _ => (pe_and (pe_callB (kcall_isi (K := K)) (by rfl) T.n_isinstance bo_isinstance (pa_cons (pv 2) (pa_cons (pe_bltn (by rfl) T.n_tuple bo_tuple rel_ty) pa_nil))) (pe_one (pe_cmpR op_eq (pe_callB (kcall_len (K := K)) (by rfl) T.n_len bo_len (pa_cons (pv 2) pa_nil)) pe_int (nomark _)))))) pa_nil)))) (pss_one (ps_ret pe_bl)) pss_nil) (pss_cons (ps_if (pt_not (pt_val (pe_callB (kcr_all (K := K) rfl) (by rfl) T.n_all bo_all (pa_cons (pe_lc2 (own := [("pair", 2), ("point", 3)]) (vs1 := [3]) rfl sc_are_ties.nd (kpi_tup (K := K) (pv 0)) (blkOk_by (N := nm_are_ties) (sc := defScope st_are_ties) (by decide +kernel)) (by decide) (fun _ _ _ _ _ => (pg_name (i := 2) sc_are_ties.nd rfl (by first | exact Or.inl rfl | exact Or.inr rfl))) (fun _ _ _ _ _ => pts_nil) (fun _ _ _ _ _ => (kpi_tup (K := K) (pv 2))) (fun _ _ _ _ _ => (pg_name (i := 3) sc_are_ties.nd rfl (by first | exact Or.inl rfl | exact Or.inr rfl))) (fun _ _ _ _ _ => pts_nil) (fun _ _ _ _ _ => (pe_f c_is_within hr (by decide) rfl (pa_cons (pv 3) (pa_cons pe_int (pa_cons (pe_callB (kcall_len (K := K)) (by rfl) T.n_len bo_len (pa_cons (pv 0) pa_nil)) pa_nil)))))) pa_nil)))) (pss_one (ps_ret pe_bl)) pss_nil) (pss_cons (ps_set (i := 1) sc_are_ties.nd rfl (Or.inl rfl) (pe_f c_points_in hr (by decide) rfl (pa_cons (pv 0) pa_nil))) (pss_one (ps_ret (pe_and (pe_cmpR (kop_eqD (K := K) hr.units) (pv 1) (pe_listRg rfl (by rfl) T.n_list (prg_1 (by rfl) T.n_range (pe_callB (kcall_len (K := K)) (by rfl) T.n_len bo_len (pa_cons (pv 1) pa_nil)))) (nomark _)) (pe_one (pe_cmpR op_eq (pe_callB (kcall_len (K := K)) (by rfl) T.n_len bo_len (pa_cons (pe_f c_pieces_in hr (by decide) rfl (pa_cons (pv 0) (pa_cons (pe_listRg rfl (by rfl) T.n_list (prg_2 (by rfl) T.n_range pe_int (pe_op op_add (pe_callB (kcall_len (K := K)) (by rfl) T.n_len bo_len (pa_cons (pv 0) pa_nil)) pe_int))) pa_nil))) pa_nil)) pe_int (nomark _)))))))))), ?_⟩
    have el : ∀ {σ : L2.St} {H1 : Hp}, σ[0]? = some (some (.ref a)) → Same H H1 → EvS (tCB (N0.rLen K) (tCons (tVar 0) tNil)) σ H1 (IsV (.int (ts.length : Int))) := fun hv e => es_as (es_lenSq (es_seqT hv (same_tup e t1))) (by rw [tl])
    have hp : 0 < ts.length := List.length_pos_iff.mpr ht
    refine ifs_b (b := false) (eb_as (eb_or2 (eb_not (eb_test (es_isi (b := true) (evs_var rfl fun H1 e => ⟨_, tyx_tup (same_tup e t1), by decide +kernel⟩)))) fun _ => eb_not (eb_test (es_chainI es_cV (el rfl (Same.refl _)) es_cV rfl rfl))) ?_) (fun z => nomatch z) fun _ H1 e1 => ?_
    · rw [decide_eq_true (by omega), decide_eq_true (by omega)]
      rfl
    refine ifs_b (b := false) (eb_as (eb_not (eb_test (es_all (bs := List.replicate ps.length true) (es_imp (es_lcV (b := fun _ => true) (fun _ => V.bl true) (fun x => [some (.ref a), none, some x, none]) (ei_tup (es_seqT rfl (same_tup e1 t1))) (by omega) (fun x hx H' Q q => q) (fun x hx => rfl) (fun x hx => eb_yes) fun x hx _ => ?_) fun v H' e p => ?_)))) (by simp)) (fun z => nomatch z) fun _ H2 e2 => ?_
    · obtain ⟨j, hj, rfl⟩ := List.mem_iff_getElem.mp hx
      obtain ⟨p, ep, hpq⟩ := dpa_at t2 (List.getElem?_eq_getElem hj)
      rw [ep]
      have hpq := same_tup e1 hpq
      refine es_as (es_andV (es_isi (b := true) (evs_var rfl fun H1 e => ⟨_, tyx_tup (same_tup e hpq), by decide +kernel⟩)) fun _ => es_eqI (es_lenSq (es_seqT rfl hpq)) es_cV) rfl
    · obtain ⟨D, ev, dD, nD⟩ := p
      refine ⟨D, ev, ?_, nD⟩
      rw [dD]
      congr 2
      rw [List.map_replicate, List.filter_eq_self.mpr fun _ _ => rfl]
      exact List.eq_replicate_iff.mpr ⟨by rw [List.length_map], fun b hb => by obtain ⟨_, _, e⟩ := List.mem_map.mp hb; exact e.symm⟩
    have e12 := Same.trans e1 e2
    refine ifs_b (b := false) (eb_as (eb_not (eb_test (es_all (bs := List.replicate (2 * ts.length) true) (es_imp (es_lc2 (xs := ps) (fun i => [V.int (ts.getD i (0, 0)).1, V.int (ts.getD i (0, 0)).2]) (fun _ _ => V.bl true) (fun i => [some (.ref a), none, ps[i]?, none]) (fun i z => [some (.ref a), none, ps[i]?, some z]) (ei_tup (es_seqT rfl (same_tup e12 t1))) ?_ (fun i x hx H' Q q => ?_) (fun i hi => rfl) (fun i x hx => ?_) (fun i hi z hz H' Q q => q) (fun i hi z hz => rfl) fun i hi z hz => ?_) fun v H' e p => ?_)))) (by simp)) (fun z => nomatch z) fun _ H3 e3 => ?_
    · rw [tl]
      have : ∀ n, (flatN n (fun i => [V.int (ts.getD i (0, 0)).1, V.int (ts.getD i (0, 0)).2]) fun _ _ => V.bl true).length = 2 * n := fun n => by
        induction n with
        | zero => rfl
        | succ n ih => rw [flatN_succ, List.length_append, ih]; show 2 * n + 2 = _; omega
      rw [this]
      omega
    · rw [hx] at q
      exact q
    · obtain ⟨p, rfl, hp⟩ := dpa_at t2 hx
      exact ej_tup (by show some ps[i]? = _; rw [hx]) (same_tup e12 hp)
    · have hti : ts.getD i (0, 0) ∈ ts := by
        rw [List.getD_eq_getElem?_getD, List.getElem?_eq_getElem (show i < ts.length by omega)]
        exact List.getElem_mem _
      have rg := d.rg _ hti
      have nle := d.pts_le ht
      have key : ∀ x : Int, 0 ≤ x → x < (n : Int) → (n : Int) ≤ (ts.length : Int) + 1 → EvS (tFn spWithin (tCons (tVar 3) (tCons (tC (.int 0)) (tCons (tCB (N0.rLen K) (tCons (tVar 0) tNil)) tNil)))) [some (.ref a), none, ps[i]?, some (.int x)] H2 (IsV (.bl true)) := fun x h0 h1 h2 => es_fn (evc (es_vV rfl) (evc es_cV (evc (el rfl e12) ev0))) fun H1 e Q q => ⟨x, 0, (ts.length : Int), rfl, q _ _ (Same.refl _) (by show V.bl _ = _; rw [decide_eq_true (by omega)])⟩
      have nl : (n : Int) ≤ (ts.length : Int) + 1 := by have := d.le; omega
      rcases List.mem_cons.mp hz with e | hz
      · subst e
        exact key _ rg.1 rg.2.1 nl
      · rw [List.mem_singleton.mp hz]
        exact key _ rg.2.2.1 rg.2.2.2 nl
    · obtain ⟨D, ev, dD, nD⟩ := p
      refine ⟨D, ev, ?_, nD⟩
      rw [dD, tl]
      congr 2
      rw [List.map_replicate]
      have : ∀ n, (flatN n (fun i => [V.int (ts.getD i (0, 0)).1, V.int (ts.getD i (0, 0)).2]) fun _ _ => V.bl true) = List.replicate (2 * n) (V.bl true) := fun n => by
        induction n with
        | zero => rfl
        | succ n ih => rw [flatN_succ, ih, show 2 * (n + 1) = 2 * n + 2 by omega, ← List.replicate_append_replicate]; rfl
      exact this _
    have e13 := Same.trans e12 e3
    refine asg_seq (P := NewL H3 ((rng n).map V.int)) (es_ptsIn (es_vV rfl) (ties_same e13 hT) d ht hz) fun v H4 e4 ⟨D, ev, dD, nD⟩ => ?_
    subst ev
    have nle := d.pts_le ht
    have hT4 := ties_same (Same.trans e13 e4) hT
    refine es_ret (P := IsV (.bl true)) (es_as (es_andV (a := true) (b := true) (es_as (es_eqD (K := K) (d := .list ((rng n).map .int)) (e := .list ((rng n).map .int)) (es_var rfl (dp_list (lst_of dD))) (newL_D (es_imp (es_rg1 (j := (n : Int)) (es_as (es_lenL (es_seqL rfl (lst_of dD))) (by rw [List.length_map, rng_len])) ⟨by omega, by omega, by omega, by omega, by omega⟩) fun v H' e p => ?_)) (shaped_list _) (shaped_list _)) ?_) fun _ => es_as (es_eqI (i := 1) (es_cb1 (P := fun v H' => ∃ q x, v = .ref q ∧ SqT K H' q [x]) ?_ fun v G g ⟨q, x, ev, hq⟩ R r => ⟨q, [x], by rw [ev], .inr hq, r _ _ (Same.refl _) rfl⟩) es_cV) rfl) rfl) fun v H' e ev => ?_
    · rwa [rgV_rng] at p
    · rw [eqv_list, decide_eq_true rfl]
    · have e14 := Same.trans e13 e4
      exact fun G g R r => ⟨.ref a, rfl, es_rg2 (i := 1) (j := (ts.length : Int) + 1) es_cV (es_i0 (el rfl e14) es_cV) ⟨by omega, by omega, by omega, by omega, by omega⟩ G g _ fun v G2 g2 ⟨L, ev, dL, nL⟩ => by
        subst ev
        rw [rgV_ones] at dL
        refine ⟨a, L, ts, n, ones ts.length, rfl, ties_same (Same.trans g g2) hT4, d, ht, hz, lst_of dL, by unfold ones; rw [List.length_map, List.length_range]; omega, fun z => ?_, fun i hi => ?_, fun i hi => ?_, fun H' q x e hq => r _ _ (Same.trans g2 e) ⟨q, x, rfl, hq⟩⟩
        · have := congrArg List.length z
          unfold ones at this
          rw [List.length_map, List.length_range, List.length_nil] at this
          omega
        · obtain ⟨j, hj, rfl⟩ := List.mem_map.mp hi
          rw [List.mem_range] at hj
          omega
        · exact List.mem_map.mpr ⟨i, List.mem_range.mpr hi, rfl⟩⟩
    · subst ev
      exact k H' (Same.trans (Same.trans e13 e4) e)
theorem cl_are_ties (T : Txt K mg) : Cl P w K mg base 4 "are_ties" (spAreTies K) := by
  obtain ⟨f, fd, F, hm, hb⟩ := T.f_are_ties
  exact cl_of (ok_are_ties F T) hm F.kp hb
/-! the class Web -/
structure Wk (ts : Ts) (n : Nat) : Prop where
  d : Drawn ts n
  ne : ts ≠ []
  le : ts.length ≤ 24
def WebAt (K : PySem.W.Frag) (mg : Str → Option Value) (H : Hp) (w : Addr) (ts : Ts) : Prop := ∃ a : Addr, Ob (cA mg "Web") [("_ties", .ref a)] H w ∧ TiesT K H a ts
theorem web_same {H H1 : Hp} {w : Addr} {ts : Ts} (e : Same H H1) (h : WebAt K mg H w ts) : WebAt K mg H1 w ts := by
  obtain ⟨a, h1, h2⟩ := h
  exact ⟨a, ob_same e h1, ties_same e h2⟩
def spWInit (K : PySem.W.Frag) (mg : Str → Option Value) : Sp := fun vs H Q _ => ∃ (x dx a : Addr) (ts : Ts) (n : Nat), vs = [.ref x, .ref a] ∧ H x = some (.ins (cA mg "Web") dx []) ∧ TiesT K H a ts ∧ Wk ts n ∧ ∀ G, Same H G → Q .non (upd G x (.ins (cA mg "Web") dx [("_ties", .ref a)]))
theorem ok_Web___init__ {f : Addr} {fd : FuncData} (F : Fun K "__init__" "Web.__init__" st_Web___init__ f fd) (T : Txt K mg) : FnOk P w K mg base CX0 5 f fd ["self", "ties"] (spWInit K mg) := by
  have c_are_ties : Cl P w K mg base 4 "are_ties" (spAreTies K) := cl_are_ties T
  refine F.ok sc_Web___init__ (fun vs H Q E h => ?_) (fun cdv A outer s H vs Q E hr h => ?_)
  · obtain ⟨x, dx, a, ts, n, rfl, _⟩ := h
    rfl
  · obtain ⟨x, dx, a, ts, n, rfl, hx, hT, hw, k⟩ := h
    refine ⟨_, (pss_cons (ps_if (pt_not (pt_val (pe_f c_are_ties hr (by decide) rfl (pa_cons (pv 1) pa_nil)))) (pss_one ps_never) pss_nil) (pss_one (kps_fld (K := K) (pv 0) (pv 1)))), ?_⟩
    refine ifs_b (b := false) (eb_as (eb_not (eb_test (es_fn (P := IsV (.bl true)) (evc (es_vV rfl) ev0) fun H1 e Q q => ⟨a, ts, n, rfl, ties_same e hT, hw.d, hw.ne, hw.le, fun H' e' => q _ _ e' rfl⟩))) rfl) (fun z => nomatch z) fun _ H1 e1 => ?_
    exact ⟨.ref a, rfl, .ref x, rfl, x, _, dx, [], rfl, e1 _ _ hx, T.cl_Web, T.na_Web__ties, by decide, k _ e1⟩
theorem k_Web (T : Txt K mg) : Mr P w K mg base 5 "Web" (cA mg "Web") (spWInit K mg) := by
  obtain ⟨f, fd, F, hm, hb⟩ := T.f_Web___init__
  exact ⟨⟨f, fd, _, hm, ok_Web___init__ F T, hb⟩, T.g_Web⟩
/-- Web(ties) -/
theorem es_mkWeb {σ : L2.St} {H : Hp} {te : TE} {ts : Ts} {n : Nat} (h : EvS te σ H (fun v H' => ∃ a, v = .ref a ∧ TiesT K H' a ts)) (hw : Wk ts n) : EvS (tMake (cA mg "Web") (spWInit K mg) [] E0 (tCons te tNil)) σ H (fun v H' => ∃ w, v = .ref w ∧ WebAt K mg H' w ts) := fun H1 e Q q =>
  h H1 e _ fun v H2 e2 ⟨a, ev, hT⟩ x dx nx ndx ne => by
    subst ev
    have e3 : Same H2 (upd (upd H2 dx (.own x)) x (.ins (cA mg "Web") dx [])) := Same.trans (new_same ndx) (new_same (by rw [upd_ne (Ne.symm ne)]; exact nx))
    refine ⟨x, dx, a, ts, n, rfl, upd_same, ties_same e3 hT, hw, fun G e4 => ⟨rfl, ?_⟩⟩
    have e5 : Same H2 (upd G x (.ins (cA mg "Web") dx [("_ties", V.ref a)])) := same_mut (Same.trans e3 e4) nx
    exact q _ _ (Same.trans e2 e5) ⟨x, rfl, a, ⟨dx, upd_same⟩, ties_same e5 hT⟩
def spWTies (K : PySem.W.Frag) (mg : Str → Option Value) : Sp := fun vs H Q _ => ∃ (w : Addr) (ts : Ts), vs = [.ref w] ∧ WebAt K mg H w ts ∧ ∀ H' a, Same H H' → TiesT K H' a ts → Q (.ref a) H'
theorem es_webTies {σ : L2.St} {H : Hp} {w : Addr} {ts : Ts} (T : Txt K mg) {te : TE} (h : EvS te σ H (IsV (.ref w))) (hw : WebAt K mg H w ts) : EvS (tFld K te "_ties") σ H (fun v H' => ∃ a, v = .ref a ∧ TiesT K H' a ts) := by
  obtain ⟨a, h1, h2⟩ := hw
  exact es_imp (es_fld h h1 T.cl_Web T.na_Web__ties rfl) fun v H' e ev => ⟨a, ev, ties_same e h2⟩
theorem ok_Web_ties {f : Addr} {fd : FuncData} (F : Fun K "ties" "Web.ties" st_Web_ties f fd) (T : Txt K mg) : FnOk P w K mg base CX0 1 f fd ["self"] (spWTies K mg) := by
  refine F.ok sc_Web_ties (fun vs H Q E h => ?_) (fun cdv A outer s H vs Q E hr h => ?_)
  · obtain ⟨w, ts, rfl, _⟩ := h
    rfl
  · obtain ⟨w, ts, rfl, hw, k⟩ := h
    refine ⟨_, (pss_one (ps_ret (kpe_fld (K := K) (pv 0)))), ?_⟩
    exact es_ret (es_webTies T (es_vV rfl) hw) fun v H' e ⟨a, ev, ht⟩ => ev ▸ k H' a e ht
theorem pr_Web_ties (T : Txt K mg) : Pr P w K mg base 1 (cA mg "Web") "ties" (spWTies K mg) := by
  obtain ⟨f, p, fd, F, hm, hb⟩ := T.f_Web_ties
  exact ⟨f, p, fd, _, hm, ok_Web_ties F T, hb⟩
def spWSize (K : PySem.W.Frag) (mg : Str → Option Value) : Sp := fun vs H Q _ => ∃ (w : Addr) (ts : Ts), vs = [.ref w] ∧ WebAt K mg H w ts ∧ ∀ H', Same H H' → Q (.int (ts.length : Int)) H'
theorem es_lenTies {σ : L2.St} {H : Hp} {ts : Ts} {te : TE} (h : EvS te σ H (fun v H' => ∃ a, v = .ref a ∧ TiesT K H' a ts)) : EvS (tCB (N0.rLen K) (tCons te tNil)) σ H (IsV (.int (ts.length : Int))) := es_cb1 h fun v H1 e ⟨a, ev, ps, t1, t2⟩ Q q =>
  ⟨a, ps, by rw [ev], .inr t1, q _ _ (Same.refl _) (by rw [ties_len t2])⟩
theorem ok_Web_size {f : Addr} {fd : FuncData} (F : Fun K "size" "Web.size" st_Web_size f fd) (T : Txt K mg) : FnOk P w K mg base CX0 1 f fd ["self"] (spWSize K mg) := by
  refine F.ok sc_Web_size (fun vs H Q E h => ?_) (fun cdv A outer s H vs Q E hr h => ?_)
  · obtain ⟨w, ts, rfl, _⟩ := h
    rfl
  · obtain ⟨w, ts, rfl, hw, k⟩ := h
    refine ⟨_, (pss_one (ps_ret (pe_callB (kcall_len (K := K)) (by rfl) T.n_len bo_len (pa_cons (kpe_fld (K := K) (pv 0)) pa_nil)))), ?_⟩
    exact es_ret (es_lenTies (es_webTies T (es_vV rfl) hw)) fun v H' e ev => ev ▸ k H' e
theorem pr_Web_size (T : Txt K mg) : Pr P w K mg base 1 (cA mg "Web") "size" (spWSize K mg) := by
  obtain ⟨f, p, fd, F, hm, hb⟩ := T.f_Web_size
  exact ⟨f, p, fd, _, hm, ok_Web_size F T, hb⟩
theorem ok_Web___len__ {f : Addr} {fd : FuncData} (F : Fun K "__len__" "Web.__len__" st_Web___len__ f fd) (T : Txt K mg) : FnOk P w K mg base CX0 1 f fd ["self"] (spWSize K mg) := by
  refine F.ok sc_Web___len__ (fun vs H Q E h => ?_) (fun cdv A outer s H vs Q E hr h => ?_)
  · obtain ⟨w, ts, rfl, _⟩ := h
    rfl
  · obtain ⟨w, ts, rfl, hw, k⟩ := h
    refine ⟨_, (pss_one (ps_ret (pe_callB (kcall_len (K := K)) (by rfl) T.n_len bo_len (pa_cons (kpe_fld (K := K) (pv 0)) pa_nil)))), ?_⟩
    exact es_ret (es_lenTies (es_webTies T (es_vV rfl) hw)) fun v H' e ev => ev ▸ k H' e
theorem ow_Web___len__ (T : Txt K mg) : Ow P w K mg base 1 (cA mg "Web") "__len__" (spWSize K mg) := by
  obtain ⟨f, fd, F, hm, hb⟩ := T.f_Web___len__
  exact ⟨f, fd, _, hm, ok_Web___len__ F T, hb⟩
def spWPoints (K : PySem.W.Frag) (mg : Str → Option Value) : Sp := fun vs H Q _ => ∃ (w : Addr) (ts : Ts) (n : Nat), vs = [.ref w] ∧ WebAt K mg H w ts ∧ Wk ts n ∧ ∀ H', Same H H' → Q (.int (n : Int)) H'
theorem es_ptsIn2 {σ : L2.St} {H : Hp} {te : TE} {ts : Ts} {n : Nat} (h : EvS te σ H (fun v H' => ∃ a, v = .ref a ∧ TiesT K H' a ts)) (hw : Wk ts n) : EvS (tFn (spPtsIn K) (tCons te tNil)) σ H (NewL H ((rng n).map V.int)) := fun H1 e Q q =>
  h H1 e _ fun v H2 e2 ⟨a, ev, hT⟩ => ⟨a, ts, n, by rw [ev], hT, hw.d, hw.ne, hw.le, fun H' p e' np dp => q _ _ (Same.trans e2 e') ⟨p, rfl, dp, Same.free (Same.trans e e2) np⟩⟩
theorem ok_Web_points {f : Addr} {fd : FuncData} (F : Fun K "points" "Web.points" st_Web_points f fd) (T : Txt K mg) : FnOk P w K mg base CX0 2 f fd ["self"] (spWPoints K mg) := by
  have c_points_in : Cl P w K mg base 1 "points_in" (spPtsIn K) := cl_points_in T
  refine F.ok sc_Web_points (fun vs H Q E h => ?_) (fun cdv A outer s H vs Q E hr h => ?_)
  · obtain ⟨w, ts, n, rfl, _⟩ := h
    rfl
  · obtain ⟨w, ts, n, rfl, hw, hk, k⟩ := h
    refine ⟨_, (pss_one (ps_ret (pe_callB (kcall_len (K := K)) (by rfl) T.n_len bo_len (pa_cons (pe_f c_points_in hr (by decide) rfl (pa_cons (kpe_fld (K := K) (pv 0)) pa_nil)) pa_nil)))), ?_⟩
    refine es_ret (P := IsV (.int (n : Int))) (es_as (es_lenL (newL_list (es_ptsIn2 (es_webTies T (es_vV rfl) hw) hk))) (by rw [List.length_map, rng_len])) fun v H' e ev => ev ▸ k H' e
theorem pr_Web_points (T : Txt K mg) : Pr P w K mg base 2 (cA mg "Web") "points" (spWPoints K mg) := by
  obtain ⟨f, p, fd, F, hm, hb⟩ := T.f_Web_points
  exact ⟨f, p, fd, _, hm, ok_Web_points F T, hb⟩
def spWRank (K : PySem.W.Frag) (mg : Str → Option Value) : Sp := fun vs H Q _ => ∃ (w : Addr) (ts : Ts) (n : Nat), vs = [.ref w] ∧ WebAt K mg H w ts ∧ Wk ts n ∧ ∀ H', Same H H' → Q (.int ((ts.length : Int) - n + 1)) H'
theorem ok_Web_rank {f : Addr} {fd : FuncData} (F : Fun K "rank" "Web.rank" st_Web_rank f fd) (T : Txt K mg) : FnOk P w K mg base CX0 3 f fd ["self"] (spWRank K mg) := by
  have c_rank_of_ties : Cl P w K mg base 2 "rank_of_ties" (spRankT K) := cl_rank_of_ties T
  refine F.ok sc_Web_rank (fun vs H Q E h => ?_) (fun cdv A outer s H vs Q E hr h => ?_)
  · obtain ⟨w, ts, n, rfl, _⟩ := h
    rfl
  · obtain ⟨w, ts, n, rfl, hw, hk, k⟩ := h
    refine ⟨_, (pss_one (ps_ret (pe_f c_rank_of_ties hr (by decide) rfl (pa_cons (kpe_fld (K := K) (pv 0)) pa_nil)))), ?_⟩
    refine es_webTies T (es_vV rfl) hw H (Same.refl _) _ fun v H1 e ⟨a, ev, hT⟩ => ?_
    exact ⟨a, ts, n, by rw [ev], hT, hk.d, hk.ne, hk.le, fun H' e' => k H' (Same.trans e e')⟩
theorem pr_Web_rank (T : Txt K mg) : Pr P w K mg base 3 (cA mg "Web") "rank" (spWRank K mg) := by
  obtain ⟨f, p, fd, F, hm, hb⟩ := T.f_Web_rank
  exact ⟨f, p, fd, _, hm, ok_Web_rank F T, hb⟩
/-! checks -/
theorem es_size {σ : L2.St} {H : Hp} {w : Addr} {ts : Ts} {te : TE} (h : EvS te σ H (IsV (.ref w))) (hw : WebAt K mg H w ts) : EvS (tProp (cA mg "Web") (spWSize K mg) [] E0 te) σ H (IsV (.int (ts.length : Int))) := by
  obtain ⟨a, h1, h2⟩ := id hw
  exact es_p h h1 fun H1 e Q q => ⟨w, ts, rfl, web_same e hw, fun H' e' => q _ _ e' rfl⟩
theorem es_points {σ : L2.St} {H : Hp} {w : Addr} {ts : Ts} {n : Nat} {te : TE} (h : EvS te σ H (IsV (.ref w))) (hw : WebAt K mg H w ts) (hk : Wk ts n) : EvS (tProp (cA mg "Web") (spWPoints K mg) [] E0 te) σ H (IsV (.int (n : Int))) := by
  obtain ⟨a, h1, h2⟩ := id hw
  exact es_p h h1 fun H1 e Q q => ⟨w, ts, n, rfl, web_same e hw, hk, fun H' e' => q _ _ e' rfl⟩
theorem es_rank {σ : L2.St} {H : Hp} {w : Addr} {ts : Ts} {n : Nat} {te : TE} (h : EvS te σ H (IsV (.ref w))) (hw : WebAt K mg H w ts) (hk : Wk ts n) : EvS (tProp (cA mg "Web") (spWRank K mg) [] E0 te) σ H (IsV (.int ((ts.length : Int) - n + 1))) := by
  obtain ⟨a, h1, h2⟩ := id hw
  exact es_p h h1 fun H1 e Q q => ⟨w, ts, n, rfl, web_same e hw, hk, fun H' e' => q _ _ e' rfl⟩
theorem es_tiesP {σ : L2.St} {H : Hp} {w : Addr} {ts : Ts} {te : TE} (h : EvS te σ H (IsV (.ref w))) (hw : WebAt K mg H w ts) : EvS (tProp (cA mg "Web") (spWTies K mg) [] E0 te) σ H (fun v H' => ∃ a, v = .ref a ∧ TiesT K H' a ts) := by
  obtain ⟨a, h1, h2⟩ := id hw
  exact es_p h h1 fun H1 e Q q => ⟨w, ts, rfl, web_same e hw, fun H' a e' ht => q _ _ e' ⟨a, rfl, ht⟩⟩
def spIsDirW (K : PySem.W.Frag) (mg : Str → Option Value) : Sp := fun vs H Q _ => ∃ (w : Addr) (ts : Ts) (t : Int), vs = [.ref w, .int t] ∧ WebAt K mg H w ts ∧ IsDir ts t ∧ ∀ H', Same H H' → Q (.bl true) H'
theorem ok_is_directed {f : Addr} {fd : FuncData} (F : Fun K "is_directed" "is_directed" st_is_directed f fd) (T : Txt K mg) : FnOk P w K mg base CX0 3 f fd ["web", "value"] (spIsDirW K mg) := by
  have c_is_integer : Cl P w K mg base 1 "is_integer" (spIsInt K) := cl_is_integer T
  have p_Web_size : Pr P w K mg base 1 (cA mg "Web") "size" (spWSize K mg) := pr_Web_size T
  refine F.ok sc_is_directed (fun vs H Q E h => ?_) (fun cdv A outer s H vs Q E hr h => ?_)
  · obtain ⟨w, ts, t, rfl, _⟩ := h
    rfl
  · obtain ⟨w, ts, t, rfl, hw, ⟨d0, d1, d2⟩, k⟩ := h
    refine ⟨_, (pss_one (ps_ret (pe_and (pe_f c_is_integer hr (by decide) rfl (pa_cons (pv 1) pa_nil)) (pe_one (pe_chain op_le op_le pe_int (pe_callB call_abs (by rfl) T.n_abs bo_abs (pa_cons (pv 1) pa_nil)) (pe_p p_Web_size T.cl_Web hr (by decide) (pv 0))))))), ?_⟩
    refine es_ret (P := IsV (.bl true)) (es_as (es_andV (es_fn (P := IsV (.bl true)) (evc (es_vV rfl) ev0) fun H1 e Q q => ⟨.int t, some t, rfl, .int t, q _ _ (Same.refl _) rfl⟩) fun _ => es_chainI es_cV (es_absI (es_vV rfl)) (es_size (es_vV rfl) hw) rfl rfl) ?_) fun v H' e ev => ev ▸ k H' e
    rw [decide_eq_true (by split <;> omega), decide_eq_true (by split <;> omega)]
    rfl
theorem cl_is_directed (T : Txt K mg) : Cl P w K mg base 3 "is_directed" (spIsDirW K mg) := by
  obtain ⟨f, fd, F, hm, hb⟩ := T.f_is_directed
  exact cl_of (ok_is_directed F T) hm F.kp hb
def spChkDir (K : PySem.W.Frag) (mg : Str → Option Value) : Sp := fun vs H Q _ => ∃ (w : Addr) (ts : Ts) (t : Int), vs = [.ref w, .int t] ∧ WebAt K mg H w ts ∧ IsDir ts t ∧ ∀ H', Same H H' → Q .non H'
theorem ok_check_directed {f : Addr} {fd : FuncData} (F : Fun K "check_directed" "check_directed" st_check_directed f fd) (T : Txt K mg) : FnOk P w K mg base CX0 4 f fd ["web", "tie"] (spChkDir K mg) := by
  have c_is_directed : Cl P w K mg base 3 "is_directed" (spIsDirW K mg) := cl_is_directed T
  refine F.ok sc_check_directed (fun vs H Q E h => ?_) (fun cdv A outer s H vs Q E hr h => ?_)
  · obtain ⟨w, ts, t, rfl, _⟩ := h
    rfl
  · obtain ⟨w, ts, t, rfl, hw, hd, k⟩ := h
    refine ⟨_, (pss_one (ps_if (pt_not (pt_val (pe_f c_is_directed hr (by decide) rfl (pa_cons (pv 0) (pa_cons (pv 1) pa_nil))))) (pss_one ps_never) pss_nil)), ?_⟩
    exact ifs_1 (b := false) (eb_as (eb_not (eb_test (es_fn (P := IsV (.bl true)) (evc (es_vV rfl) (evc (es_vV rfl) ev0)) fun H1 e Q q => ⟨w, ts, t, rfl, web_same e hw, hd, fun H' e' => q _ _ e' rfl⟩))) rfl) (fun z => nomatch z) fun _ H1 e1 => k H1 e1
theorem cl_check_directed (T : Txt K mg) : Cl P w K mg base 4 "check_directed" (spChkDir K mg) := by
  obtain ⟨f, fd, F, hm, hb⟩ := T.f_check_directed
  exact cl_of (ok_check_directed F T) hm F.kp hb
def spChkPt (K : PySem.W.Frag) (mg : Str → Option Value) : Sp := fun vs H Q _ => ∃ (w : Addr) (ts : Ts) (n : Nat) (p : Int), vs = [.ref w, .int p] ∧ WebAt K mg H w ts ∧ Wk ts n ∧ 0 ≤ p ∧ p < (n : Int) ∧ ∀ H', Same H H' → Q .non H'
theorem ok_check_point {f : Addr} {fd : FuncData} (F : Fun K "check_point" "check_point" st_check_point f fd) (T : Txt K mg) : FnOk P w K mg base CX0 4 f fd ["web", "point"] (spChkPt K mg) := by
  have c_is_within : Cl P w K mg base 2 "is_within" spWithin := cl_is_within T
  have p_Web_points : Pr P w K mg base 2 (cA mg "Web") "points" (spWPoints K mg) := pr_Web_points T
  refine F.ok sc_check_point (fun vs H Q E h => ?_) (fun cdv A outer s H vs Q E hr h => ?_)
  · obtain ⟨w, ts, n, p, rfl, _⟩ := h
    rfl
  · obtain ⟨w, ts, n, p, rfl, hw, hk, h0, h1, k⟩ := h
    refine ⟨_, (pss_one (ps_if (pt_not (pt_val (pe_f c_is_within hr (by decide) rfl (pa_cons (pv 1) (pa_cons pe_int (pa_cons (pe_op op_sub (pe_p p_Web_points T.cl_Web hr (by decide) (pv 0)) pe_int) pa_nil)))))) (pss_one ps_never) pss_nil)), ?_⟩
    exact ifs_1 (b := false) (eb_as (eb_not (eb_test (es_fn (P := IsV (.bl true)) (evc (es_vV rfl) (evc es_cV (evc (es_i0 (es_points (es_vV rfl) hw hk) es_cV) ev0))) fun H1 e Q q => ⟨p, 0, (n : Int) - 1, rfl, q _ _ (Same.refl _) (by show V.bl _ = _; rw [decide_eq_true (by omega)])⟩))) rfl) (fun z => nomatch z) fun _ H1 e1 => k H1 e1
theorem cl_check_point (T : Txt K mg) : Cl P w K mg base 4 "check_point" (spChkPt K mg) := by
  obtain ⟨f, fd, F, hm, hb⟩ := T.f_check_point
  exact cl_of (ok_check_point F T) hm F.kp hb
/-! roads, judged by the program -/
def okD (ts : Ts) : Option Int → Bool
  | some t => decide (IsDir ts t)
  | none => false
def okV (ts : Ts) : V → V
  | .int i => .bl (decide (IsDir ts i))
  | _ => .bl false
theorem enr_okV {H : Hp} {ts : Ts} {v : V} {o : Option Int} (h : EnR K H v o) : okV ts v = .bl (okD ts o) := by cases h <;> rfl
theorem enr_en {H : Hp} {v : V} {o : Option Int} (h : EnR K H v o) : En K H v o := by
  cases h with
  | int i => exact .int i
  | bl b => exact .oth (.base (.bl b)) (i := true) (b := true) (by decide +kernel) (by decide +kernel) rfl
  | non => exact .oth (.base .non) (i := false) (b := false) (by decide +kernel) (by decide +kernel) rfl
  | str x _ => exact .oth (.base (.str x)) (i := false) (b := false) (by decide +kernel) (by decide +kernel) rfl
  | tup h => exact .oth (tyx_tup h) (i := false) (b := false) (by decide +kernel) (by decide +kernel) rfl
theorem dir_abs {ts : Ts} {i : Int} : (decide (1 ≤ (if i < 0 then -i else i)) && decide ((if i < 0 then -i else i) ≤ (ts.length : Int))) = decide (IsDir ts i) := by
  rw [Bool.eq_iff_iff, Bool.and_eq_true, decide_eq_true_iff, decide_eq_true_iff, decide_eq_true_iff]
  unfold IsDir
  constructor
  · rintro ⟨h1, h2⟩
    refine ⟨?_, ?_, ?_⟩ <;> (split at h1 <;> split at h2 <;> omega)
  · rintro ⟨h0, h1, h2⟩
    constructor <;> split <;> omega
theorem nx_all {ts : Ts} {ns : List Int} : ((List.range (ns.length - 1)).map fun j => decide (beg ts (-ns.getD j 0) = beg ts (ns.getD (j + 1) 0))).all id = nx ts ns := by
  rw [Bool.eq_iff_iff, nx_iff, List.all_eq_true]
  constructor
  · intro h j hj
    exact of_decide_eq_true (h _ (List.mem_map.mpr ⟨j, List.mem_range.mpr (by omega), rfl⟩))
  · intro h b hb
    obtain ⟨j, hj, rfl⟩ := List.mem_map.mp hb
    rw [List.mem_range] at hj
    exact decide_eq_true (h j (by omega))
theorem es_lenTs {σ : L2.St} {H : Hp} {i : Nat} {a : Addr} {ts : Ts} (hv : σ[i]? = some (some (.ref a))) (h : TiesT K H a ts) : EvS (tCB (N0.rLen K) (tCons (tVar i) tNil)) σ H (IsV (.int (ts.length : Int))) := by
  obtain ⟨ps, t1, t2⟩ := h
  exact es_as (es_lenSq (es_seqT hv t1)) (by rw [ties_len t2])
theorem ok_is_road_in {f : Addr} {fd : FuncData} (F : Fun K "is_road_in" "is_road_in" st_is_road_in f fd) (T : Txt K mg) : FnOk P w K mg base CX0 3 f fd ["ties", "value"] (spIsRoadL K) := by
  have c_begin_of : Cl P w K mg base 1 "begin_of" (spBegin K) := cl_begin_of T
  have c_end_of : Cl P w K mg base 2 "end_of" (spEnd K) := cl_end_of T
  have c_is_integer : Cl P w K mg base 1 "is_integer" (spIsInt K) := cl_is_integer T
  refine F.ok sc_is_road_in (fun vs H Q E h => ?_) (fun cdv A outer s H vs Q E hr h => ?_)
  · obtain ⟨a, ts, v, o, rfl, _⟩ := h
    rfl
  · obtain ⟨a, ts, v, o, rfl, hT, va, k⟩ := h
    refine ⟨_, (pss_cons (ps_if (pt_not (pt_val (pe_callB (kcall_isi (K := K)) (by rfl) T.n_isinstance bo_isinstance (pa_cons (pv 1) (pa_cons (pe_bltn (by rfl) T.n_tuple bo_tuple rel_ty) pa_nil))))) (pss_one (ps_ret pe_bl)) pss_nil) (pss_cons (ps_if (pt_not (pt_val (pe_callB (kcr_all (K := K) rfl) (by rfl) T.n_all bo_all (pa_cons (pe_lc (own := [("tie", 4)]) rfl sc_is_road_in.nd (kpi_tup (K := K) (pv 1)) (blkOk_by (N := nm_is_road_in) (sc := defScope st_is_road_in) (by decide +kernel)) (fun _ _ _ _ _ => (pg_name (i := 4) sc_is_road_in.nd rfl (by first | exact Or.inl rfl | exact Or.inr rfl))) (fun _ _ _ _ _ => pts_nil) (fun _ _ _ _ _ => (pe_and (pe_f c_is_integer hr (by decide) rfl (pa_cons (pv 4) pa_nil)) (pe_one (pe_chain op_le op_le pe_int (pe_callB call_abs (by rfl) T.n_abs bo_abs (pa_cons (pv 4) pa_nil)) (pe_callB (kcall_len (K := K)) (by rfl) T.n_len bo_len (pa_cons (pv 0) pa_nil))))))) pa_nil)))) (pss_one (ps_ret pe_bl)) pss_nil) (pss_one (ps_ret (pe_callB (kcr_all (K := K) rfl) (by rfl) T.n_all bo_all (pa_cons (pe_lc (own := [("one", 2), ("other", 3)]) rfl sc_is_road_in.nd (RZ.pi_zipA rfl T.n_zip (pa_cons (pv 1) (pa_cons (pe_slice (ksl_tupA (K := K)) (pv 1) (po_some pe_int) po_none) pa_nil))) (blkOk_by (N := nm_is_road_in) (sc := defScope st_is_road_in) (by decide +kernel)) (fun _ _ _ _ _ => (kpg_tup (K := K) (n := 2) rfl (pgs_cons (pg_name (i := 2) sc_is_road_in.nd rfl (by first | exact Or.inl rfl | exact Or.inr rfl)) (pgs_cons (pg_name (i := 3) sc_is_road_in.nd rfl (by first | exact Or.inl rfl | exact Or.inr rfl)) pgs_nil)))) (fun _ _ _ _ _ => pts_nil) (fun _ _ _ _ _ => (pe_cmpR op_eq (pe_f c_end_of hr (by decide) rfl (pa_cons (pv 0) (pa_cons (pv 2) pa_nil))) (pe_f c_begin_of hr (by decide) rfl (pa_cons (pv 0) (pa_cons (pv 3) pa_nil))) (nomark _)))) pa_nil)))))), ?_⟩
    cases va with
    | @oth _ t hty kt =>
      refine ifs_b (eb_not (eb_test (es_isi (b := false) (evs_var rfl fun H1 e => ⟨_, tyx_same e hty, kt⟩)))) (fun _ H' e => k H' e) fun z => nomatch z
    | @tup c xs os hx hl hz he =>
      refine ifs_b (eb_not (eb_test (es_isi (b := true) (evs_var rfl fun H1 e => ⟨_, tyx_tup (same_tup e hx), by decide +kernel⟩)))) (fun z => nomatch z) fun _ H1 e1 => ?_
      have hex : ∀ x ∈ xs, ∃ o ∈ os, EnR K H x o := fun x h => by
        obtain ⟨j, hj, rfl⟩ := List.mem_iff_getElem.mp h
        exact ⟨os[j]'(by omega), List.getElem_mem _, he j _ _ (List.getElem?_eq_getElem hj) (List.getElem?_eq_getElem (by omega))⟩
      have hT1 := ties_same e1 hT
      have exb : xs.map (okV ts) = (os.map (okD ts)).map V.bl := by
        refine List.ext_getElem? fun j => ?_
        rw [List.getElem?_map, List.getElem?_map, List.getElem?_map]
        by_cases hj : j < xs.length
        · have q1 := List.getElem?_eq_getElem hj
          have q2 := List.getElem?_eq_getElem (show j < os.length by omega)
          rw [q1, q2]
          exact congrArg some (enr_okV (he j _ _ q1 q2))
        · rw [List.getElem?_eq_none (by omega), List.getElem?_eq_none (by omega)]
          rfl
      have hroad : roadB ts (some os) = ((os.map (okD ts)).all id && nx ts (os.map fun o => o.getD 0)) := by
        show (os.all _ && _) = _
        rw [List.all_map]
        congr 1
      refine ifs_b (b := !((os.map (okD ts)).all id)) (eb_not (eb_test (es_all (bs := os.map (okD ts)) (es_imp (es_lcV (b := fun _ => true) (okV ts) (fun x => [some (.ref a), some (.ref c), none, none, some x]) (ei_tup (es_seqT rfl (same_tup e1 hx))) (by omega) (fun _ _ _ _ q => q) (fun _ _ => rfl) (fun x hm => eb_yes) fun x hm _ => ?_) fun v H' e ⟨D, ev, d, nd⟩ => ⟨D, ev, by rw [d, List.filter_eq_self.mpr (fun _ _ => rfl), exb], nd⟩)))) (fun hb H' e => ?_) fun hb H2 e2 => ?_
      · obtain ⟨o, _, en⟩ := hex x hm
        have en1 := enr_same e1 en
        refine es_as (es_andV (a := o.isSome) (b := okD ts o) (es_fn (evc (es_vV rfl) ev0) fun G e Q q => ⟨x, o, rfl, (enr_en en1).same e, q _ _ (Same.refl _) rfl⟩) fun hs => ?_) ?_
        · cases en with
          | int i => exact es_as (es_chainI es_cV (es_absI (es_vV rfl)) (es_lenTs rfl hT1) rfl rfl) (congrArg V.bl dir_abs)
          | bl b => cases hs
          | non => cases hs
          | str x h => cases hs
          | tup h => cases hs
        · rw [enr_okV en]
          cases o <;> rfl
      · refine (show roadB ts (some os) = false from ?_) ▸ k H' (Same.trans e1 e)
        have hb : (os.map (okD ts)).all id = false := by simpa using hb
        rw [hroad, hb]
        rfl
      · have hb : (os.map (okD ts)).all id = true := by simpa using hb
        have hdo : ∀ o ∈ os, okD ts o = true := fun o ho => by
          rw [List.all_map, List.all_eq_true] at hb
          exact hb o ho
        obtain ⟨ns, rfl⟩ := all_some (os := os) fun o ho => by
          have := hdo o ho
          cases o with
          | none => cases this
          | some i => rfl
        rw [List.length_map] at hl
        have exs : xs = ns.map V.int := by
          refine List.ext_getElem? fun j => ?_
          rw [List.getElem?_map]
          by_cases hj : j < xs.length
          · have q1 := List.getElem?_eq_getElem hj
            have q2 := List.getElem?_eq_getElem (show j < ns.length by omega)
            have := he j _ (some ns[j]) q1 (by rw [List.getElem?_map, q2]; rfl)
            rw [q1, q2]
            generalize xs[j] = x at this
            cases this
            rfl
          · rw [List.getElem?_eq_none (by omega), List.getElem?_eq_none (by omega)]
            rfl
        subst exs
        rw [List.length_map] at hz
        have hdir : ∀ t ∈ ns, IsDir ts t := fun t ht => of_decide_eq_true (hdo (some t) (List.mem_map.mpr ⟨t, ht, rfl⟩))
        have e12 := Same.trans e1 e2
        have hx2 := same_tup e12 hx
        have hT2 := ties_same e12 hT
        have gd : ∀ {j : Nat}, j < ns.length → (ns.map V.int)[j]? = some (.int (ns.getD j 0)) := fun {j} hj => by
          rw [List.getElem?_map, List.getElem?_eq_getElem hj, List.getD_eq_getElem?_getD, List.getElem?_eq_getElem hj]
          rfl
        have gm : ∀ {j : Nat}, j < ns.length → ns.getD j 0 ∈ ns := fun {j} hj => by
          rw [List.getD_eq_getElem?_getD, List.getElem?_eq_getElem hj]
          exact List.getElem_mem _
        have lc : EvS (tLc (RZ.iZipA K (tCons (tVar 1) (tCons (tSl (rSlA K) (tVar 1) (tPart (tC (V.int 1))) tNoPart) tNil))) (gTup K 2 (gCons (gName 2) (gCons (gName 3) gNil))) tYes
            (tOp rEq (tFn (spEnd K) (tCons (tVar 0) (tCons (tVar 2) tNil))) (tFn (spBegin K) (tCons (tVar 0) (tCons (tVar 3) tNil)))) [2, 3]) [some (.ref a), some (.ref c), none, none, none] H2 (NewL H2 (((List.range (ns.length - 1)).map fun j => decide (beg ts (-ns.getD j 0) = beg ts (ns.getD (j + 1) 0))).map V.bl)) := fun G e Q q => by
          refine ⟨.ref c, rfl, .ref c, rfl, 1, rfl, nopart (sl_ints (same_tup e hx2) fun G2 p2 f2 hp2 => ?_)⟩
          rw [show (some (1 : Int)) = some ((1 : Nat) : Int) from rfl, cutI_from] at hp2
          have hx4 := same_tup (Same.trans e f2) hx2
          have hT4 := ties_same (Same.trans e f2) hT2
          refine ⟨c, p2, _, _, rfl, .inr ⟨hx4, hp2, fun D hD => lc_it (walk_zipT (n := ns.length - 1) (by rw [List.length_map, List.length_map, List.length_drop]; omega)) (fun i G => Same G2 G ∧ G D = some (.lst (((List.range i).map fun j => decide (beg ts (-ns.getD j 0) = beg ts (ns.getD (j + 1) 0))).map V.bl))) ⟨new_same hD, upd_same⟩ (fun i G _ p => ⟨same_tup p.1 hx4, same_tup p.1 hp2⟩) (fun i x G G' hi p y => ?_) fun G p => ?_⟩⟩
          · obtain ⟨g2, dD⟩ := p
            obtain ⟨t, u, z, rfl, hT0, rfl, hu, hz'⟩ := y
            have hu : (ns.map V.int)[i]? = some u := hu
            have hz' : ((ns.drop 1).map V.int)[i]? = some z := hz'
            rw [gd (by omega)] at hu
            rw [List.map_drop, List.getElem?_drop, gd (by omega)] at hz'
            cases hu
            cases hz'
            have sT := new_same (o := .tup [V.int (ns.getD i 0), V.int (ns.getD (1 + i) 0)]) hT0
            have hT5 := ties_same (Same.trans g2 sT) hT4
            refine ⟨t, _, rfl, tup_of upd_same, rfl, _, _, rfl, _, _, rfl, rfl, rfl, ?_⟩
            refine es_eqI (i := beg ts (-ns.getD i 0)) (j := beg ts (ns.getD (1 + i) 0)) (es_fn (evc (es_vV rfl) (evc (es_vV rfl) ev0)) fun H1 e Q q => ⟨a, ts, _, rfl, ties_same e hT5, hdir _ (gm (by omega)), fun H' e' => q _ _ e' rfl⟩) (es_fn (evc (es_vV rfl) (evc (es_vV rfl) ev0)) fun H1 e Q q => ⟨a, ts, _, rfl, ties_same e hT5, hdir _ (gm (by omega)), fun H' e' => q _ _ e' rfl⟩) _ (Same.refl _) _ fun v G5 f5 ev => ?_
            refine ⟨_, (Same.trans sT f5) _ _ dD, small1000 (by rw [List.length_map, List.length_map, List.length_range]; omega), same_mut (Same.trans (Same.trans g2 sT) f5) hD, ?_⟩
            rw [upd_same, List.range_succ, List.map_append, List.map_append, show v = _ from ev, Nat.add_comm 1 i]
            rfl
          · obtain ⟨g2, dD⟩ := p
            exact q _ _ (Same.trans f2 g2) ⟨D, rfl, dD, Same.free (Same.trans e f2) hD⟩
        refine es_ret (P := IsV (.bl (nx ts ns))) (es_as (es_all lc) (by rw [nx_all])) fun v H' e ev => ?_
        subst ev
        have : roadB ts (some (ns.map some)) = nx ts ns := by
          rw [hroad, hb, List.map_map]
          show (true && nx ts (ns.map fun i => i)) = _
          rw [List.map_id', Bool.true_and]
        rw [← this]
        exact k H' (Same.trans e12 e)
theorem cl_is_road_in (T : Txt K mg) : Cl P w K mg base 3 "is_road_in" (spIsRoadL K) := by
  obtain ⟨f, fd, F, hm, hb⟩ := T.f_is_road_in
  exact cl_of (ok_is_road_in F T) hm F.kp hb
/-- a word in its two parts -/
def Spl (ns c m : List Int) : Prop := ns = c ++ m ++ Fr.opp c ∧ (ns = [] → c = [] ∧ m = []) ∧ (ns ≠ [] → m ≠ [] ∧ ∀ x y, m.getLast? = some x → m.head? = some y → x ≠ -y)
def spSplit (K : PySem.W.Frag) : Sp := fun vs H Q _ => ∃ (n : Int) (a : Addr) (ns : List Int), vs = [.ref a] ∧ SqT K H a (ns.map V.int) ∧ Wd n ns ∧ ns.length ≤ 20000 ∧
  ∀ H' p pc pm c m, Same H H' → Spl ns c m → SqT K H' p [.ref pc, .ref pm] → SqT K H' pc (c.map V.int) → SqT K H' pm (m.map V.int) → Q (.ref p) H'
theorem ok_split_core {f : Addr} {fd : FuncData} (F : Fun K "split_core" "split_core" st_split_core f fd) (T : Txt K mg) : FnOk P w K mg base CX0 1 f fd ["row"] (spSplit K) := by
  refine F.ok sc_split_core (fun vs H Q E h => ?_) (fun cdv A outer s H vs Q E hr h => ?_)
  · obtain ⟨n, a, ns, rfl, _⟩ := h
    rfl
  · obtain ⟨n, a, ns, rfl, h, hw, hz, k⟩ := h
    refine ⟨_, (pss_cons (ps_set (i := 1) sc_split_core.nd rfl (Or.inl rfl) (pe_callB (kcall_len (K := K)) (by rfl) T.n_len bo_len (pa_cons (pv 0) pa_nil))) (pss_cons (ps_set (i := 2) sc_split_core.nd rfl (Or.inl rfl) pe_int) (pss_cons (ps_while PassesOwn.never (PW.pt (pw_and (pt_cmpR op_lt (pe_op op_add (pe_op op_mul pe_int (pv 2)) pe_int) (pv 1) (nomark _)) (pw_and1 (pt_cmpR op_eq (pe_ix (kix_tup (K := K)) (pv 0) (pv 2) (fun _ _ => rfl)) (pe_un un_neg (pe_ix (kix_tup (K := K)) (pv 0) (pe_op op_sub (pe_op op_sub (pv 1) pe_int) (pv 2)) (fun _ _ => rfl))) (nomark _))))) (pss_one (ps_aug (i := 2) sc_split_core.nd rfl (Or.inl rfl) pe_int ip_add))) (pss_one (ps_ret (pe_tup (pa_cons (pe_slice (ksl_tupA (K := K)) (pv 0) po_none (po_some (pv 2))) (pa_cons (pe_slice (ksl_tupA (K := K)) (pv 0) (po_some (pv 2)) (po_some (pe_op op_sub (pv 1) (pv 2)))) pa_nil)))))))), ?_⟩
    refine ⟨.ref a, rfl, a, _, rfl, .inr h, ?_⟩
    rw [show (((ns.map V.int).length : Nat) : Int) = (ns.length : Int) by rw [List.length_map]]
    have fin : ∀ d : Nat, Pal ns d → ¬ (2 * d + 1 < ns.length ∧ ns.getD d 0 = - ns.getD (ns.length - 1 - d) 0) → (tRet (tTup (tCons (tSl (rSlA K) (tVar 0) tNoPart (tPart (tVar 2))) (tCons (tSl (rSlA K) (tVar 0) (tPart (tVar 2)) (tPart (tOp (rI0 fun i j => V.int (i - j)) (tVar 1) (tVar 2)))) tNil)))) { nx := fun _ H' => Q .non H', rt := Q } [some (.ref a), some (.int (ns.length : Int)), some (.int (d : Int))] H := fun d hp hs => by
      have h2d := hp.1
      refine ⟨.ref a, rfl, .int (d : Int), rfl, (d : Int), rfl, sl_ints h fun H1 pc e1 hc => ?_⟩
      rw [cutI_to] at hc
      refine ⟨.ref a, rfl, .int (d : Int), rfl, (d : Int), rfl, .int (ns.length : Int), rfl, .int (d : Int), rfl, _, _, rfl, rfl, _, rfl, sl_ints (same_tup e1 h) fun H2 pm e2 hm => ?_⟩
      rw [show (ns.length : Int) - (d : Int) = ((ns.length - d : Nat) : Int) by omega, cutI_mid ns d (ns.length - d) (by omega) (by omega)] at hm
      refine ⟨by show 2 ≤ sizeLine; decide, fun p hpn => k _ p pc pm (ns.take d) _ (Same.trans (Same.trans e1 e2) (new_same hpn)) ⟨pal_split hp, fun q => ?_, fun q => pal_mid hw hp q hs⟩ (tup_of upd_same) (same_tup (Same.trans e2 (new_same hpn)) hc) (same_tup (new_same hpn) hm)⟩
      subst q
      simp
    refine ⟨fun m σ H' => ∃ d : Nat, m = ns.length - d ∧ Pal ns d ∧ H' = H ∧ σ = [some (.ref a), some (.int (ns.length : Int)), some (.int (d : Int))], ⟨ns.length, 0, rfl, ⟨Nat.zero_le _, fun j hj => absurd hj (Nat.not_lt_zero _)⟩, rfl, rfl⟩, fun m σ H' ⟨d, hm, hp, eH, es⟩ => ?_⟩
    subst eH es
    have h2d := hp.1
    refine ⟨.int (d : Int), rfl, 2, (d : Int), rfl, rfl, .inl ⟨by decide, by decide⟩, _, _, rfl, rfl, .int (ns.length : Int), rfl, _, _, rfl, rfl, _, rfl, ?_⟩
    refine ite2 (fun h1 => ?_) fun h1 => ?_
    · have h1 : (2 : Int) * d + 1 < ns.length := of_decide_eq_true h1
      refine ⟨.ref a, rfl, .int (d : Int), rfl, a, _, _, _, rfl, rfl, h, at_int (j := d) rfl (by omega), ?_⟩
      refine ⟨.ref a, rfl, .int (ns.length : Int), rfl, _, _, rfl, rfl, .int (d : Int), rfl, _, _, rfl, rfl, a, _, _, _, rfl, rfl, h, at_int (j := ns.length - 1 - d) (by omega) (by omega), _, rfl, rfl, _, rfl, ?_⟩
      rw [dec_int]
      refine ite2 (fun h2 => ?_) fun h2 => ?_
      · have h2 := of_decide_eq_true h2
        refine ⟨fun σ' H2 => H2 = H' ∧ σ' = [some (.ref a), some (.int (ns.length : Int)), some (.int ((d : Int) + 1))], fun σ' H' ⟨e1, e2⟩ => ⟨ns.length - (d + 1), by omega, d + 1, rfl, ⟨by omega, fun j hj => ?_⟩, e1, e2⟩, .int (d : Int), rfl, _, _, rfl, rfl, rfl, rfl⟩
        by_cases hjd : j = d
        · subst hjd; exact h2
        · exact hp.2 j (by omega)
      · exact fin d hp fun q => h2 (decide_eq_true q.2)
    · have h1 : ¬ (2 : Int) * d + 1 < ns.length := fun q => h1 (decide_eq_true q)
      exact fin d hp fun q => h1 (by omega)
theorem cl_split_core (T : Txt K mg) : Cl P w K mg base 1 "split_core" (spSplit K) := by
  obtain ⟨f, fd, F, hm, hb⟩ := T.f_split_core
  exact cl_of (ok_split_core F T) hm F.kp hb
def spRotd (K : PySem.W.Frag) : Sp := fun vs H Q _ => ∃ (a : Addr) (ns : List Int) (k : Nat), vs = [.ref a, .int (k : Int)] ∧ SqT K H a (ns.map V.int) ∧ k ≤ ns.length ∧ ns.length ≤ 20000 ∧ ∀ H' p, Same H H' → SqT K H' p ((Rg.rot ns k).map V.int) → Q (.ref p) H'
theorem ok_rotated {f : Addr} {fd : FuncData} (F : Fun K "rotated" "rotated" st_rotated f fd) (T : Txt K mg) : FnOk P w K mg base CX0 1 f fd ["row", "start"] (spRotd K) := by
  refine F.ok sc_rotated (fun vs H Q E h => ?_) (fun cdv A outer s H vs Q E hr h => ?_)
  · obtain ⟨a, ns, k, rfl, _⟩ := h
    rfl
  · obtain ⟨a, ns, k, rfl, h, hk, hz, q⟩ := h
    refine ⟨_, (pss_one (ps_ret (pe_op (kop_catA (K := K)) (pe_slice (ksl_tupA (K := K)) (pv 0) (po_some (pv 1)) po_none) (pe_slice (ksl_tupA (K := K)) (pv 0) po_none (po_some (pv 1)))))), ?_⟩
    refine ⟨.ref a, rfl, .int (k : Int), rfl, (k : Int), rfl, nopart (sl_ints h fun H1 p1 e1 h1 => ?_)⟩
    rw [cutI_from] at h1
    refine ⟨.ref a, rfl, .int (k : Int), rfl, (k : Int), rfl, sl_ints (same_tup e1 h) fun H2 p2 e2 h2 => ?_⟩
    rw [cutI_to] at h2
    refine cat_ints (same_tup e2 h1) h2 (by rw [List.length_drop, List.length_take]; omega) fun H3 p e3 hp => q _ _ (Same.trans (Same.trans e1 e2) e3) hp
theorem cl_rotated (T : Txt K mg) : Cl P w K mg base 1 "rotated" (spRotd K) := by
  obtain ⟨f, fd, F, hm, hb⟩ := T.f_rotated
  exact cl_of (ok_rotated F T) hm F.kp hb
def spLst (K : PySem.W.Frag) : Sp := fun vs H Q _ => ∃ (a : Addr) (ns : List Int), vs = [.ref a] ∧ SqT K H a (ns.map V.int) ∧ ∀ k : Nat, k ≤ ns.length → (ns ≠ [] → k < ns.length) → Rg.Least (Rg.sq ns) k → Q (.int (k : Int)) H
theorem sq_mod {ns : List Int} {k : Nat} (hp : 0 < ns.length) : (ns.map V.int)[k % ns.length]? = some (.int (Rg.sq ns k)) := by
  rw [List.getElem?_map, getD_of (Nat.mod_lt _ hp)]
  rfl
theorem ok_least_start {f : Addr} {fd : FuncData} (F : Fun K "least_start" "least_start" st_least_start f fd) (T : Txt K mg) : FnOk P w K mg base CX0 1 f fd ["row"] (spLst K) := by
  refine F.ok sc_least_start (fun vs H Q E h => ?_) (fun cdv A outer s H vs Q E hr h => ?_)
  · obtain ⟨a, ns, rfl, _⟩ := h
    rfl
  · obtain ⟨a, ns, rfl, h, q⟩ := h
    refine ⟨_, (pss_cons (ps_set (i := 1) sc_least_start.nd rfl (Or.inl rfl) (pe_callB (kcall_len (K := K)) (by rfl) T.n_len bo_len (pa_cons (pv 0) pa_nil))) (pss_cons (ps_set (i := 2) sc_least_start.nd rfl (Or.inl rfl) pe_int) (pss_cons (ps_set (i := 3) sc_least_start.nd rfl (Or.inl rfl) pe_int) (pss_cons (ps_set (i := 4) sc_least_start.nd rfl (Or.inl rfl) pe_int) (pss_cons (ps_while PassesOwn.never (PW.pt (pw_and (pt_cmpR op_lt (pv 2) (pv 1) (nomark _)) (pw_and (pt_cmpR op_lt (pv 3) (pv 1) (nomark _)) (pw_and1 (pt_cmpR op_lt (pv 4) (pv 1) (nomark _)))))) (pss_cons (ps_set (i := 5) sc_least_start.nd rfl (Or.inl rfl) (pe_ix (kix_tup (K := K)) (pv 0) (pe_op op_mod (pe_op op_add (pv 2) (pv 4)) (pv 1)) (fun _ _ => rfl))) (pss_cons (ps_set (i := 6) sc_least_start.nd rfl (Or.inl rfl) (pe_ix (kix_tup (K := K)) (pv 0) (pe_op op_mod (pe_op op_add (pv 3) (pv 4)) (pv 1)) (fun _ _ => rfl))) (pss_cons (ps_if (pt_cmpR op_eq (pv 5) (pv 6) (nomark _)) (pss_cons (ps_aug (i := 4) sc_least_start.nd rfl (Or.inl rfl) pe_int ip_add) (pss_one ps_continue)) pss_nil) (pss_cons (ps_if (pt_cmpR op_gt (pv 5) (pv 6) (nomark _)) (pss_one (ps_set (i := 2) sc_least_start.nd rfl (Or.inl rfl) (pe_op op_add (pe_op op_add (pv 2) (pv 4)) pe_int))) (pss_one (ps_set (i := 3) sc_least_start.nd rfl (Or.inl rfl) (pe_op op_add (pe_op op_add (pv 3) (pv 4)) pe_int)))) (pss_cons (ps_if (pt_cmpR op_eq (pv 2) (pv 3) (nomark _)) (pss_one (ps_aug (i := 3) sc_least_start.nd rfl (Or.inl rfl) pe_int ip_add)) pss_nil) (pss_one (ps_set (i := 4) sc_least_start.nd rfl (Or.inl rfl) pe_int)))))))) (pss_one (ps_ret (pe_callB (call_min2 rfl) (by rfl) T.n_min bo_min (pa_cons (pv 2) (pa_cons (pv 3) pa_nil)))))))))), ?_⟩
    refine ⟨.ref a, rfl, a, _, rfl, .inr h, ?_⟩
    rw [show (((ns.map V.int).length : Nat) : Int) = (ns.length : Int) by rw [List.length_map]]
    let St : Nat → Nat → Nat → Option V → Option V → L2.St := fun f s k x y => [some (.ref a), some (.int (ns.length : Int)), some (.int (f : Int)), some (.int (s : Int)), some (.int (k : Int)), x, y]
    refine ⟨fun m σ H' => ∃ (f s k : Nat) (x y : Option V), m = 3 * ns.length + 5 - (f + s + k) ∧ (ns.length = 0 → f = 0 ∧ s = 1) ∧ Rg.Inv (Rg.sq ns) f s k ∧ H' = H ∧ σ = St f s k x y, ⟨_, 0, 1, 0, none, none, rfl, fun _ => ⟨rfl, rfl⟩, Rg.Inv.start, rfl, rfl⟩, fun m σ H' w => ?_⟩
    obtain ⟨f, s, k, x, y, rfl, h0, inv, rfl, rfl⟩ := w
    have fin : ¬ (f < ns.length ∧ s < ns.length ∧ k < ns.length) → Q (.int (if (s : Int) < (f : Int) then (s : Int) else (f : Int))) H' := fun hn => by
      have e : (if (s : Int) < (f : Int) then (s : Int) else (f : Int)) = ((min f s : Nat) : Int) := by split <;> omega
      rw [e]
      by_cases hz : ns.length = 0
      · obtain ⟨rfl, rfl⟩ := h0 hz
        have e0 : ns = [] := List.eq_nil_of_length_eq_zero hz
        subst e0
        exact q 0 (Nat.zero_le _) (fun z => absurd rfl z) (fun t ⟨j, _, z⟩ => by unfold Rg.sq at z; simp at z)
      · obtain ⟨g1, g2⟩ := inv.fin (Rg.per_sq ns) (by omega) hn
        exact q _ (by omega) (fun _ => g1) g2
    have last : ¬ (f < ns.length ∧ s < ns.length ∧ k < ns.length) → (tRet (tCB (fun xs H Q => ∃ i j, xs = [V.int i, V.int j] ∧ Q (V.int (if j < i then j else i)) H) (tCons (tVar 2) (tCons (tVar 3) tNil)))) { nx := fun _ H' => Q .non H', rt := Q } (St f s k x y) H' := fun hn => ⟨.int (f : Int), rfl, .int (s : Int), rfl, _, _, rfl, fin hn⟩
    refine ⟨.int (f : Int), rfl, .int (ns.length : Int), rfl, _, _, rfl, rfl, _, rfl, ite2 (fun h1 => ?_) fun h1 => last fun z => h1 (decide_eq_true (by omega))⟩
    have h1 : f < ns.length := by have := of_decide_eq_true h1; omega
    refine ⟨.int (s : Int), rfl, .int (ns.length : Int), rfl, _, _, rfl, rfl, _, rfl, ite2 (fun h2 => ?_) fun h2 => last fun z => h2 (decide_eq_true (by omega))⟩
    have h2 : s < ns.length := by have := of_decide_eq_true h2; omega
    refine ⟨.int (k : Int), rfl, .int (ns.length : Int), rfl, _, _, rfl, rfl, _, rfl, ite2 (fun h3 => ?_) fun h3 => last fun z => h3 (decide_eq_true (by omega))⟩
    have h3 : k < ns.length := by have := of_decide_eq_true h3; omega
    have hp : 0 < ns.length := by omega
    refine ⟨fun σ' H2 => ∃ (f' s' k' : Nat) (x y : Option V), f + s + k < f' + s' + k' ∧ Rg.Inv (Rg.sq ns) f' s' k' ∧ H2 = H' ∧ σ' = St f' s' k' x y, fun σ' H2 w => ?_, ?_⟩
    · obtain ⟨f', s', k', x, y, w1, w2, w3, w4⟩ := w
      exact ⟨_, by omega, f', s', k', x, y, rfl, fun z => by omega, w2, w3, w4⟩
    refine ⟨.ref a, rfl, .int (f : Int), rfl, .int (k : Int), rfl, _, _, rfl, rfl, .int (ns.length : Int), rfl, _, _, rfl, rfl, by show (0 : Int) < (ns.length : Int); omega, a, _, _, .int (Rg.sq ns (f + k)), rfl, rfl, h, at_int (j := (f + k) % ns.length) (by simp) (Nat.mod_lt _ hp), ?_⟩
    refine ⟨.ref a, rfl, .int (s : Int), rfl, .int (k : Int), rfl, _, _, rfl, rfl, .int (ns.length : Int), rfl, _, _, rfl, rfl, by show (0 : Int) < (ns.length : Int); omega, a, _, _, .int (Rg.sq ns (s + k)), rfl, rfl, h, at_int (j := (s + k) % ns.length) (by simp) (Nat.mod_lt _ hp), ?_⟩
    refine ⟨.int (Rg.sq ns (f + k)), rfl, .int (Rg.sq ns (s + k)), rfl, rfl, _, rfl, ?_⟩
    rw [dec_int]
    refine ite2 (fun g1 => ?_) fun g1 => ?_
    · have g1 := of_decide_eq_true g1
      exact ⟨.int (k : Int), rfl, _, _, rfl, rfl, f, s, k + 1, some (.int (Rg.sq ns (f + k))), some (.int (Rg.sq ns (s + k))), by omega, inv.grow g1, rfl, rfl⟩
    · have g1 : ¬ Rg.sq ns (f + k) = Rg.sq ns (s + k) := fun z => g1 (decide_eq_true z)
      refine ⟨.int (Rg.sq ns (f + k)), rfl, .int (Rg.sq ns (s + k)), rfl, _, _, rfl, rfl, _, rfl, ite2 (fun g2 => ?_) fun g2 => ?_⟩
      · have g2 : Rg.sq ns (s + k) < Rg.sq ns (f + k) := of_decide_eq_true g2
        refine ⟨.int (f : Int), rfl, .int (k : Int), rfl, _, _, rfl, rfl, _, _, rfl, rfl, ?_⟩
        refine ⟨.int ((f : Int) + (k : Int) + 1), rfl, .int (s : Int), rfl, rfl, _, rfl, ?_⟩
        rw [dec_int]
        refine ite2 (fun g3 => ?_) fun g3 => ?_
        · have g3 : (f : Int) + (k : Int) + 1 = (s : Int) := of_decide_eq_true g3
          refine ⟨.int (s : Int), rfl, _, _, rfl, rfl, f + k + 1, s + 1, 0, some (.int (Rg.sq ns (f + k))), some (.int (Rg.sq ns (s + k))), by omega, inv.on2 g2 (by omega), rfl, ?_⟩
          rfl
        · have g3 : ¬ (f : Int) + (k : Int) + 1 = (s : Int) := fun z => g3 (decide_eq_true z)
          exact ⟨f + k + 1, s, 0, some (.int (Rg.sq ns (f + k))), some (.int (Rg.sq ns (s + k))), by omega, inv.on g2 (by omega), rfl, rfl⟩
      · have g2 : Rg.sq ns (f + k) < Rg.sq ns (s + k) := by
          have : ¬ Rg.sq ns (s + k) < Rg.sq ns (f + k) := fun z => g2 (decide_eq_true z)
          omega
        refine ⟨.int (s : Int), rfl, .int (k : Int), rfl, _, _, rfl, rfl, _, _, rfl, rfl, ?_⟩
        refine ⟨.int (f : Int), rfl, .int ((s : Int) + (k : Int) + 1), rfl, rfl, _, rfl, ?_⟩
        rw [dec_int]
        refine ite2 (fun g3 => ?_) fun g3 => ?_
        · have g3 : (f : Int) = (s : Int) + (k : Int) + 1 := of_decide_eq_true g3
          refine ⟨.int ((s : Int) + (k : Int) + 1), rfl, _, _, rfl, rfl, f, s + k + 1 + 1, 0, some (.int (Rg.sq ns (f + k))), some (.int (Rg.sq ns (s + k))), by omega, ?_, rfl, rfl⟩
          have := inv.symm.on2 g2 (by omega)
          have e : f + 1 = s + k + 1 + 1 := by omega
          have e2 : s + k + 1 = f := by omega
          rw [e, e2] at this
          exact e2 ▸ this
        · have g3 : ¬ (f : Int) = (s : Int) + (k : Int) + 1 := fun z => g3 (decide_eq_true z)
          exact ⟨f, s + k + 1, 0, some (.int (Rg.sq ns (f + k))), some (.int (Rg.sq ns (s + k))), by omega, (inv.symm.on g2 (by omega)).symm, rfl, rfl⟩
theorem cl_least_start (T : Txt K mg) : Cl P w K mg base 1 "least_start" (spLst K) := by
  obtain ⟨f, fd, F, hm, hb⟩ := T.f_least_start
  exact cl_of (ok_least_start F T) hm F.kp hb
theorem spl_len {ns c m : List Int} (s : Spl ns c m) : c.length + m.length + c.length = ns.length := by
  have := congrArg List.length s.1
  rw [List.length_append, List.length_append, Fr.opp_len] at this
  omega
theorem spl_rg {ns c m : List Int} (h : Spl ns c m) : Rg.Spl ns c m := h
def spRingOf (K : PySem.W.Frag) : Sp := fun vs H Q _ => ∃ (n : Int) (a : Addr) (ns : List Int), vs = [.ref a] ∧ SqT K H a (ns.map V.int) ∧ Wd n ns ∧ ns.length ≤ 20000 ∧ ∀ H' p r, Same H H' → Rg.RingW ns r → SqT K H' p (r.map V.int) → Q (.ref p) H'
theorem ok_ring_of {f : Addr} {fd : FuncData} (F : Fun K "ring_of" "ring_of" st_ring_of f fd) (T : Txt K mg) : FnOk P w K mg base CX0 2 f fd ["row"] (spRingOf K) := by
  have c_split_core : Cl P w K mg base 1 "split_core" (spSplit K) := cl_split_core T
  have c_least_start : Cl P w K mg base 1 "least_start" (spLst K) := cl_least_start T
  have c_rotated : Cl P w K mg base 1 "rotated" (spRotd K) := cl_rotated T
  refine F.ok sc_ring_of (fun vs H Q E h => ?_) (fun cdv A outer s H vs Q E hr h => ?_)
  · obtain ⟨n, a, ns, rfl, _⟩ := h
    rfl
  · obtain ⟨n, a, ns, rfl, h, hw, hz, q⟩ := h
    refine ⟨_, (pss_cons (ps_set (i := 1) sc_ring_of.nd rfl (Or.inl rfl) (pe_ix (kix_tup (K := K)) (pe_f c_split_core hr (by decide) rfl (pa_cons (pv 0) pa_nil)) pe_int (fun _ _ => rfl))) (pss_one (ps_ret (pe_f c_rotated hr (by decide) rfl (pa_cons (pv 1) (pa_cons (pe_f c_least_start hr (by decide) rfl (pa_cons (pv 1) pa_nil)) pa_nil)))))), ?_⟩
    refine ⟨.ref a, rfl, n, a, ns, rfl, h, hw, hz, fun H1 p pc pm c m e1 hs hp hc hm => ⟨p, _, _, _, rfl, rfl, hp, rfl, ?_⟩⟩
    refine ⟨.ref pm, rfl, .ref pm, rfl, pm, m, rfl, hm, fun k hk _ hl => ⟨pm, m, k, rfl, hm, hk, by have := spl_len hs; omega, fun H2 p2 e2 h2 => q _ _ _ (Same.trans e1 e2) ⟨c, m, spl_rg hs, Rg.ring_rot hk hl⟩ h2⟩⟩
theorem cl_ring_of (T : Txt K mg) : Cl P w K mg base 2 "ring_of" (spRingOf K) := by
  obtain ⟨f, fd, F, hm, hb⟩ := T.f_ring_of
  exact cl_of (ok_ring_of F T) hm F.kp hb
/-! checks of roads and webs; the methods -/
theorem drop_seq {te : TE} {x : TS} {D : Ends} {σ : L2.St} {H : Hp} {P : V → Hp → Prop} (h : EvS te σ H P) (rest : ∀ H', Same H H' → x D σ H') : tSeq (tDrop te) x D σ H := h H (Same.refl _) _ fun v H' e _ => rest H' e
theorem es_fnT {sp : Sp} {te : TE} {ta : TA} {us : List V} {σ : L2.St} {H : Hp} {ts : Ts} {P : V → Hp → Prop} (h : EvS te σ H (fun v H' => ∃ a, v = .ref a ∧ TiesT K H' a ts)) (hv : EvV ta σ H us)
    (hs : ∀ a H1, Same H H1 → TiesT K H1 a ts → ∀ Q : VK, (∀ v H2, Same H1 H2 → P v H2 → Q v H2) → sp (.ref a :: us) H1 Q E0) : EvS (tFn sp (tCons te ta)) σ H P := fun H1 e Q q =>
  h H1 e _ fun v H2 e2 ⟨a, ev, hT⟩ => hv H2 (Same.trans e e2) _ fun H3 e3 => by
    subst ev
    exact hs a H3 (Same.trans (Same.trans e e2) e3) (ties_same e3 hT) _ fun v H4 e4 p => q v H4 (Same.trans (Same.trans e2 e3) e4) p
def spChkRoad (K : PySem.W.Frag) (mg : Str → Option Value) : Sp := fun vs H Q _ => ∃ (w r : Addr) (ts : Ts) (ns : List Int), vs = [.ref w, .ref r] ∧ WebAt K mg H w ts ∧ SqT K H r (ns.map V.int) ∧ ns.length ≤ 1000 ∧ roadB ts (some (ns.map some)) = true ∧ ∀ H', Same H H' → Q .non H'
theorem ok_check_road {f : Addr} {fd : FuncData} (F : Fun K "check_road" "check_road" st_check_road f fd) (T : Txt K mg) : FnOk P w K mg base CX0 4 f fd ["web", "road"] (spChkRoad K mg) := by
  have c_is_road_in : Cl P w K mg base 3 "is_road_in" (spIsRoadL K) := cl_is_road_in T
  have p_Web_ties : Pr P w K mg base 1 (cA mg "Web") "ties" (spWTies K mg) := pr_Web_ties T
  refine F.ok sc_check_road (fun vs H Q E h => ?_) (fun cdv A outer s H vs Q E hr h => ?_)
  · obtain ⟨w, r, ts, ns, rfl, _⟩ := h
    rfl
  · obtain ⟨w, r, ts, ns, rfl, hw, hr', hz, hb, k⟩ := h
    refine ⟨_, (pss_one (ps_if (pt_not (pt_val (pe_f c_is_road_in hr (by decide) rfl (pa_cons (pe_p p_Web_ties T.cl_Web hr (by decide) (pv 0)) (pa_cons (pv 1) pa_nil))))) (pss_one ps_never) pss_nil)), ?_⟩
    refine ifs_1 (b := false) (eb_as (eb_not (eb_test (es_fnT (P := IsV (.bl true)) (us := [.ref r]) (es_tiesP (es_vV rfl) hw) (evc (es_vV rfl) ev0) fun a H1 e hT Q q => ⟨a, ts, .ref r, _, rfl, hT, var_ints (same_tup e hr') hz, fun H' e' => by rw [hb]; exact q _ _ e' rfl⟩))) rfl) (fun z => nomatch z) fun _ H1 e1 => k H1 e1
theorem cl_check_road (T : Txt K mg) : Cl P w K mg base 4 "check_road" (spChkRoad K mg) := by
  obtain ⟨f, fd, F, hm, hb⟩ := T.f_check_road
  exact cl_of (ok_check_road F T) hm F.kp hb
theorem es_chkRoad {σ : L2.St} {H : Hp} {i j : Nat} {w r : Addr} {ts : Ts} {ns : List Int} (hi : σ[i]? = some (some (.ref w))) (hj : σ[j]? = some (some (.ref r))) (hw : WebAt K mg H w ts) (hr : SqT K H r (ns.map V.int)) (hz : ns.length ≤ 1000) (hb : roadB ts (some (ns.map some)) = true) : EvS (tFn (spChkRoad K mg) (tCons (tVar i) (tCons (tVar j) tNil))) σ H (IsV .non) :=
  es_fn (evc (es_vV hi) (evc (es_vV hj) ev0)) fun H1 e Q q => ⟨w, r, ts, ns, rfl, web_same e hw, same_tup e hr, hz, hb, fun H' e' => q _ _ e' rfl⟩
theorem tyx_web {H : Hp} {w : Addr} {ts : Ts} (T : Txt K mg) (h : WebAt K mg H w ts) : TyX K H (.ref w) (.ref (cA mg "Web")) := by
  obtain ⟨a, ⟨dx, h1⟩, _⟩ := h
  exact .base (.ins h1 T.cl_Web T.ci_Web.ha T.ci_Web.hn T.ci_Web.htk T.ci_Web.hm)
def spChkWeb (K : PySem.W.Frag) (mg : Str → Option Value) : Sp := fun vs H Q _ => ∃ (w : Addr) (ts : Ts), vs = [.ref w] ∧ WebAt K mg H w ts ∧ ∀ H', Same H H' → Q .non H'
theorem ok_check_web {f : Addr} {fd : FuncData} (F : Fun K "check_web" "check_web" st_check_web f fd) (T : Txt K mg) : FnOk P w K mg base CX0 1 f fd ["web"] (spChkWeb K mg) := by
  refine F.ok sc_check_web (fun vs H Q E h => ?_) (fun cdv A outer s H vs Q E hr h => ?_)
  · obtain ⟨w, ts, rfl, _⟩ := h
    rfl
  · obtain ⟨w, ts, rfl, hw, k⟩ := h
    refine ⟨_, (pss_one (ps_if (pt_not (pt_val (pe_callB (kcall_isi (K := K)) (by rfl) T.n_isinstance bo_isinstance (pa_cons (pv 0) (pa_cons (pe_glob rfl T.g_Web rel_ref) pa_nil))))) (pss_one ps_never) pss_nil)), ?_⟩
    exact ifs_1 (b := false) (eb_as (eb_not (eb_test (es_isC (b := true) (evs_var rfl fun H1 e => ⟨_, tyx_web T (web_same e hw), kit_self⟩) es_cV))) rfl) (fun z => nomatch z) fun _ H1 e1 => k H1 e1
theorem cl_check_web (T : Txt K mg) : Cl P w K mg base 1 "check_web" (spChkWeb K mg) := by
  obtain ⟨f, fd, F, hm, hb⟩ := T.f_check_web
  exact cl_of (ok_check_web F T) hm F.kp hb
theorem es_chkDir {σ : L2.St} {H : Hp} {i j : Nat} {w : Addr} {ts : Ts} {t : Int} (hi : σ[i]? = some (some (.ref w))) (hj : σ[j]? = some (some (.int t))) (hw : WebAt K mg H w ts) (hd : IsDir ts t) : EvS (tFn (spChkDir K mg) (tCons (tVar i) (tCons (tVar j) tNil))) σ H (IsV .non) :=
  es_fn (evc (es_vV hi) (evc (es_vV hj) ev0)) fun H1 e Q q => ⟨w, ts, t, rfl, web_same e hw, hd, fun H' e' => q _ _ e' rfl⟩
def spWBegin (K : PySem.W.Frag) (mg : Str → Option Value) : Sp := fun vs H Q _ => ∃ (w : Addr) (ts : Ts) (t : Int), vs = [.ref w, .int t] ∧ WebAt K mg H w ts ∧ IsDir ts t ∧ ∀ H', Same H H' → Q (.int (beg ts t)) H'
theorem ok_Web_begin {f : Addr} {fd : FuncData} (F : Fun K "begin" "Web.begin" st_Web_begin f fd) (T : Txt K mg) : FnOk P w K mg base CX0 5 f fd ["self", "tie"] (spWBegin K mg) := by
  have c_begin_of : Cl P w K mg base 1 "begin_of" (spBegin K) := cl_begin_of T
  have c_check_directed : Cl P w K mg base 4 "check_directed" (spChkDir K mg) := cl_check_directed T
  refine F.ok sc_Web_begin (fun vs H Q E h => ?_) (fun cdv A outer s H vs Q E hr h => ?_)
  · obtain ⟨w, ts, t, rfl, _⟩ := h
    rfl
  · obtain ⟨w, ts, t, rfl, hw, hd, k⟩ := h
    refine ⟨_, (pss_cons (ps_expr (pe_f c_check_directed hr (by decide) rfl (pa_cons (pv 0) (pa_cons (pv 1) pa_nil)))) (pss_one (ps_ret (pe_f c_begin_of hr (by decide) rfl (pa_cons (kpe_fld (K := K) (pv 0)) (pa_cons (pv 1) pa_nil)))))), ?_⟩
    refine drop_seq (es_chkDir rfl rfl hw hd) fun H1 e1 => ?_
    exact es_ret (P := IsV (.int (beg ts t))) (es_fnT (us := [.int t]) (es_webTies T (es_vV rfl) (web_same e1 hw)) (evc (es_vV rfl) ev0) fun a H2 e hT Q q => ⟨a, ts, t, rfl, hT, hd, fun H' e' => q _ _ e' rfl⟩) fun v H' e ev => ev ▸ k H' (Same.trans e1 e)
theorem m_Web_begin (T : Txt K mg) : Mt P w K mg base 5 (cA mg "Web") "begin" (spWBegin K mg) := by
  obtain ⟨f, fd, F, hm, hb⟩ := T.f_Web_begin
  exact ⟨f, fd, _, hm, ok_Web_begin F T, hb⟩
def spWEnd (K : PySem.W.Frag) (mg : Str → Option Value) : Sp := fun vs H Q _ => ∃ (w : Addr) (ts : Ts) (t : Int), vs = [.ref w, .int t] ∧ WebAt K mg H w ts ∧ IsDir ts t ∧ ∀ H', Same H H' → Q (.int (beg ts (-t))) H'
theorem ok_Web_end {f : Addr} {fd : FuncData} (F : Fun K "end" "Web.end" st_Web_end f fd) (T : Txt K mg) : FnOk P w K mg base CX0 5 f fd ["self", "tie"] (spWEnd K mg) := by
  have c_end_of : Cl P w K mg base 2 "end_of" (spEnd K) := cl_end_of T
  have c_check_directed : Cl P w K mg base 4 "check_directed" (spChkDir K mg) := cl_check_directed T
  refine F.ok sc_Web_end (fun vs H Q E h => ?_) (fun cdv A outer s H vs Q E hr h => ?_)
  · obtain ⟨w, ts, t, rfl, _⟩ := h
    rfl
  · obtain ⟨w, ts, t, rfl, hw, hd, k⟩ := h
    refine ⟨_, (pss_cons (ps_expr (pe_f c_check_directed hr (by decide) rfl (pa_cons (pv 0) (pa_cons (pv 1) pa_nil)))) (pss_one (ps_ret (pe_f c_end_of hr (by decide) rfl (pa_cons (kpe_fld (K := K) (pv 0)) (pa_cons (pv 1) pa_nil)))))), ?_⟩
    refine drop_seq (es_chkDir rfl rfl hw hd) fun H1 e1 => ?_
    exact es_ret (P := IsV (.int (beg ts (-t)))) (es_fnT (us := [.int t]) (es_webTies T (es_vV rfl) (web_same e1 hw)) (evc (es_vV rfl) ev0) fun a H2 e hT Q q => ⟨a, ts, t, rfl, hT, hd, fun H' e' => q _ _ e' rfl⟩) fun v H' e ev => ev ▸ k H' (Same.trans e1 e)
theorem m_Web_end (T : Txt K mg) : Mt P w K mg base 5 (cA mg "Web") "end" (spWEnd K mg) := by
  obtain ⟨f, fd, F, hm, hb⟩ := T.f_Web_end
  exact ⟨f, fd, _, hm, ok_Web_end F T, hb⟩
theorem es_begsAt {σ : L2.St} {H : Hp} {te : TE} {ta : TA} {ts : Ts} {p : Int} (h : EvS te σ H (fun v H' => ∃ a, v = .ref a ∧ TiesT K H' a ts)) (hv : EvV ta σ H [.int p]) (hz : ts.length ≤ 1000) : EvS (tFn (spBegsAt K) (tCons te ta)) σ H (NewL H ((begs ts p).map V.int)) :=
  es_fnT h hv fun a H1 e hT Q q => ⟨a, ts, p, rfl, hT, hz, fun H' D e' n d => q _ _ e' ⟨D, rfl, d, Same.free e n⟩⟩
def spWBegs (K : PySem.W.Frag) (mg : Str → Option Value) : Sp := fun vs H Q _ => ∃ (w : Addr) (ts : Ts) (n : Nat) (p : Int), vs = [.ref w, .int p] ∧ WebAt K mg H w ts ∧ Wk ts n ∧ 0 ≤ p ∧ p < (n : Int) ∧ ∀ H' q, Same H H' → SqT K H' q ((begs ts p).map V.int) → Q (.ref q) H'
theorem ok_Web_beginnings {f : Addr} {fd : FuncData} (F : Fun K "beginnings" "Web.beginnings" st_Web_beginnings f fd) (T : Txt K mg) : FnOk P w K mg base CX0 5 f fd ["self", "point"] (spWBegs K mg) := by
  have c_beginnings_at : Cl P w K mg base 2 "beginnings_at" (spBegsAt K) := cl_beginnings_at T
  have c_check_point : Cl P w K mg base 4 "check_point" (spChkPt K mg) := cl_check_point T
  refine F.ok sc_Web_beginnings (fun vs H Q E h => ?_) (fun cdv A outer s H vs Q E hr h => ?_)
  · obtain ⟨w, ts, n, p, rfl, _⟩ := h
    rfl
  · obtain ⟨w, ts, n, p, rfl, hw, hk, p0, p1, k⟩ := h
    refine ⟨_, (pss_cons (ps_expr (pe_f c_check_point hr (by decide) rfl (pa_cons (pv 0) (pa_cons (pv 1) pa_nil)))) (pss_one (ps_ret (pe_callTy (kcall_tuple (K := K)) (by rfl) T.n_tuple bo_tuple (pa_cons (pe_f c_beginnings_at hr (by decide) rfl (pa_cons (kpe_fld (K := K) (pv 0)) (pa_cons (pv 1) pa_nil))) pa_nil))))), ?_⟩
    refine drop_seq (P := IsV .non) (es_fn (evc (es_vV rfl) (evc (es_vV rfl) ev0)) fun H1 e Q q => ⟨w, ts, n, p, rfl, web_same e hw, hk, p0, p1, fun H' e' => q _ _ e' rfl⟩) fun H1 e1 => ?_
    refine es_ret (es_tupL (es_begsAt (p := p) (es_webTies T (es_vV rfl) (web_same e1 hw)) (evc (es_vV rfl) ev0) (by have := hk.le; omega))) fun v H' e ⟨q, ev, hq⟩ => ev ▸ k H' q (Same.trans e1 e) hq
theorem m_Web_beginnings (T : Txt K mg) : Mt P w K mg base 5 (cA mg "Web") "beginnings" (spWBegs K mg) := by
  obtain ⟨f, fd, F, hm, hb⟩ := T.f_Web_beginnings
  exact ⟨f, fd, _, hm, ok_Web_beginnings F T, hb⟩
def loose (ts : Ts) (n : Nat) : List Int := (rng n).filter fun p => decide (((begs ts p).length : Int) = 1)
def spWLoose (K : PySem.W.Frag) (mg : Str → Option Value) : Sp := fun vs H Q _ => ∃ (w : Addr) (ts : Ts) (n : Nat), vs = [.ref w] ∧ WebAt K mg H w ts ∧ Wk ts n ∧ ∀ H' q, Same H H' → SqT K H' q ((loose ts n).map V.int) → Q (.ref q) H'
theorem ok_Web_loose_points {f : Addr} {fd : FuncData} (F : Fun K "loose_points" "Web.loose_points" st_Web_loose_points f fd) (T : Txt K mg) : FnOk P w K mg base CX0 3 f fd ["self"] (spWLoose K mg) := by
  have c_beginnings_at : Cl P w K mg base 2 "beginnings_at" (spBegsAt K) := cl_beginnings_at T
  have c_points_in : Cl P w K mg base 1 "points_in" (spPtsIn K) := cl_points_in T
  refine F.ok sc_Web_loose_points (fun vs H Q E h => ?_) (fun cdv A outer s H vs Q E hr h => ?_)
  · obtain ⟨w, ts, n, rfl, _⟩ := h
    rfl
  · obtain ⟨w, ts, n, rfl, hw, hk, k⟩ := h
    refine ⟨_, (pss_one (ps_ret (pe_callTy (kcall_tuple (K := K)) (by rfl) T.n_tuple bo_tuple (pa_cons (pe_lc (own := [("point", 1)]) rfl sc_Web_loose_points.nd (kpi_list (K := K) (pe_f c_points_in hr (by decide) rfl (pa_cons (kpe_fld (K := K) (pv 0)) pa_nil))) (blkOk_by (N := nm_Web_loose_points) (sc := defScope st_Web_loose_points) (by decide +kernel)) (fun _ _ _ _ _ => (pg_name (i := 1) sc_Web_loose_points.nd rfl (by first | exact Or.inl rfl | exact Or.inr rfl))) (fun _ _ _ _ _ => pts_one (pt_cmpR op_eq (pe_callB (kcall_len (K := K)) (by rfl) T.n_len bo_len (pa_cons (pe_f c_beginnings_at hr (by decide) rfl (pa_cons (kpe_fld (K := K) (pv 0)) (pa_cons (pv 1) pa_nil))) pa_nil)) pe_int (nomark _))) (fun _ _ _ _ _ => (pv 1))) pa_nil)))), ?_⟩
    have hle := hk.le
    have hpn := hk.d.pts_le hk.ne
    refine es_ret (es_tupL (es_lcI (ns := rng n) (fun p => decide (((begs ts p).length : Int) = 1)) V.int (fun x => [some (.ref w), some x]) (ei_list (newL_list (es_ptsIn2 (es_webTies T (es_vV rfl) hw) hk))) (by rw [rng_len]; omega) (fun i hi H' Q q => q) (fun i hi => rfl) (fun i hi => ?_) fun i hi hb => es_vV rfl)) fun v H' e ⟨q, ev, hq⟩ => ev ▸ k H' q e hq
    exact eb_test (es_eqI (es_as (es_lenL (newL_list (es_begsAt (p := i) (es_webTies T (es_vV rfl) hw) (evc (es_vV rfl) ev0) (by omega)))) (by rw [List.length_map])) es_cV)
theorem m_Web_loose_points (T : Txt K mg) : Mt P w K mg base 3 (cA mg "Web") "loose_points" (spWLoose K mg) := by
  obtain ⟨f, fd, F, hm, hb⟩ := T.f_Web_loose_points
  exact ⟨f, fd, _, hm, ok_Web_loose_points F T, hb⟩
def spWIsRoad (K : PySem.W.Frag) (mg : Str → Option Value) : Sp := fun vs H Q _ => ∃ (w : Addr) (ts : Ts) (v : V) (o : Option (List (Option Int))), vs = [.ref w, v] ∧ WebAt K mg H w ts ∧ VaR K H v o ∧ ∀ H', Same H H' → Q (.bl (roadB ts o)) H'
theorem ok_Web_is_road {f : Addr} {fd : FuncData} (F : Fun K "is_road" "Web.is_road" st_Web_is_road f fd) (T : Txt K mg) : FnOk P w K mg base CX0 4 f fd ["self", "value"] (spWIsRoad K mg) := by
  have c_is_road_in : Cl P w K mg base 3 "is_road_in" (spIsRoadL K) := cl_is_road_in T
  refine F.ok sc_Web_is_road (fun vs H Q E h => ?_) (fun cdv A outer s H vs Q E hr h => ?_)
  · obtain ⟨w, ts, v, o, rfl, _⟩ := h
    rfl
  · obtain ⟨w, ts, v, o, rfl, hw, hv, k⟩ := h
    refine ⟨_, (pss_one (ps_ret (pe_f c_is_road_in hr (by decide) rfl (pa_cons (kpe_fld (K := K) (pv 0)) (pa_cons (pv 1) pa_nil))))), ?_⟩
    exact es_ret (P := IsV (.bl (roadB ts o))) (es_fnT (us := [v]) (es_webTies T (es_vV rfl) hw) (evc (es_vV rfl) ev0) fun a H2 e hT Q q => ⟨a, ts, v, o, rfl, hT, var_same e hv, fun H' e' => q _ _ e' rfl⟩) fun v H' e ev => ev ▸ k H' e
theorem m_Web_is_road (T : Txt K mg) : Mt P w K mg base 4 (cA mg "Web") "is_road" (spWIsRoad K mg) := by
  obtain ⟨f, fd, F, hm, hb⟩ := T.f_Web_is_road
  exact ⟨f, fd, _, hm, ok_Web_is_road F T, hb⟩
def spWTight (K : PySem.W.Frag) (mg : Str → Option Value) (g : List Int → List Int) : Sp := fun vs H Q _ => ∃ (w r : Addr) (ts : Ts) (ns : List Int), vs = [.ref w, .ref r] ∧ WebAt K mg H w ts ∧ SqT K H r (ns.map V.int) ∧ ns.length ≤ 1000 ∧ roadB ts (some (ns.map some)) = true ∧ ∀ H' q, Same H H' → SqT K H' q ((g ns).map V.int) → Q (.ref q) H'
theorem ok_Web_tight {f : Addr} {fd : FuncData} (F : Fun K "tight" "Web.tight" st_Web_tight f fd) (T : Txt K mg) : FnOk P w K mg base CX0 5 f fd ["self", "road"] (spWTight K mg Fr.red) := by
  have c_check_road : Cl P w K mg base 4 "check_road" (spChkRoad K mg) := cl_check_road T
  have c_reduced : Cl P w K mg base 1 "reduced" (spReduced K) := cl_reduced T
  refine F.ok sc_Web_tight (fun vs H Q E h => ?_) (fun cdv A outer s H vs Q E hr h => ?_)
  · obtain ⟨w, r, ts, ns, rfl, _⟩ := h
    rfl
  · obtain ⟨w, r, ts, ns, rfl, hw, hr', hz, hb, k⟩ := h
    refine ⟨_, (pss_cons (ps_expr (pe_f c_check_road hr (by decide) rfl (pa_cons (pv 0) (pa_cons (pv 1) pa_nil)))) (pss_one (ps_ret (pe_f c_reduced hr (by decide) rfl (pa_cons (pv 1) pa_nil))))), ?_⟩
    refine drop_seq (es_chkRoad rfl rfl hw hr' hz hb) fun H1 e1 => ?_
    exact es_ret (P := IsI K (Fr.red ns)) (es_fn (evc (es_vV rfl) ev0) fun H2 e Q q => ⟨r, ns, rfl, .inr (same_tup (Same.trans e1 e) hr'), by omega, fun H' p e' hp => q _ _ e' ⟨p, rfl, hp⟩⟩) fun v H' e ⟨q, ev, hq⟩ => ev ▸ k H' q (Same.trans e1 e) hq
theorem m_Web_tight (T : Txt K mg) : Mt P w K mg base 5 (cA mg "Web") "tight" (spWTight K mg Fr.red) := by
  obtain ⟨f, fd, F, hm, hb⟩ := T.f_Web_tight
  exact ⟨f, fd, _, hm, ok_Web_tight F T, hb⟩
theorem ok_Web_gone_back {f : Addr} {fd : FuncData} (F : Fun K "gone_back" "Web.gone_back" st_Web_gone_back f fd) (T : Txt K mg) : FnOk P w K mg base CX0 5 f fd ["self", "road"] (spWTight K mg Fr.opp) := by
  have c_check_road : Cl P w K mg base 4 "check_road" (spChkRoad K mg) := cl_check_road T
  have c_opposite : Cl P w K mg base 1 "opposite" (spOpp K) := cl_opposite T
  refine F.ok sc_Web_gone_back (fun vs H Q E h => ?_) (fun cdv A outer s H vs Q E hr h => ?_)
  · obtain ⟨w, r, ts, ns, rfl, _⟩ := h
    rfl
  · obtain ⟨w, r, ts, ns, rfl, hw, hr', hz, hb, k⟩ := h
    refine ⟨_, (pss_cons (ps_expr (pe_f c_check_road hr (by decide) rfl (pa_cons (pv 0) (pa_cons (pv 1) pa_nil)))) (pss_one (ps_ret (pe_f c_opposite hr (by decide) rfl (pa_cons (pv 1) pa_nil))))), ?_⟩
    refine drop_seq (es_chkRoad rfl rfl hw hr' hz hb) fun H1 e1 => ?_
    exact es_ret (P := IsI K (Fr.opp ns)) (es_fn (evc (es_vV rfl) ev0) fun H2 e Q q => ⟨r, ns, rfl, same_tup (Same.trans e1 e) hr', by omega, fun H' p e' hp => q _ _ e' ⟨p, rfl, hp⟩⟩) fun v H' e ⟨q, ev, hq⟩ => ev ▸ k H' q (Same.trans e1 e) hq
theorem m_Web_gone_back (T : Txt K mg) : Mt P w K mg base 5 (cA mg "Web") "gone_back" (spWTight K mg Fr.opp) := by
  obtain ⟨f, fd, F, hm, hb⟩ := T.f_Web_gone_back
  exact ⟨f, fd, _, hm, ok_Web_gone_back F T, hb⟩
/-! iteration, ==, the text of a web -/
def spWIter (K : PySem.W.Frag) (mg : Str → Option Value) : Sp := fun vs H Q _ => ∃ (w : Addr) (ts : Ts), vs = [.ref w] ∧ WebAt K mg H w ts ∧ ∀ H' it a ps, Same H H' → H it = none → H' it = some (TtO a it 0) → SqT K H' a ps → DpAll K H' ps (ts.map tieD) → Q (.ref it) H'
theorem ok_Web___iter__ {f : Addr} {fd : FuncData} (F : Fun K "__iter__" "Web.__iter__" st_Web___iter__ f fd) (T : Txt K mg) : FnOk P w K mg base CX0 1 f fd ["self"] (spWIter K mg) := by
  refine F.ok sc_Web___iter__ (fun vs H Q E h => ?_) (fun cdv A outer s H vs Q E hr h => ?_)
  · obtain ⟨w, ts, rfl, _⟩ := h
    rfl
  · obtain ⟨w, ts, rfl, ⟨a, h1, h2⟩, k⟩ := h
    refine ⟨_, (pss_one (ps_ret (pe_callB (kcall_iterT (K := K)) (by rfl) T.n_iter bo_iter (pa_cons (kpe_fld (K := K) (pv 0)) pa_nil)))), ?_⟩
    obtain ⟨ps, t1, t2⟩ := id h2
    refine es_fld (es_vV rfl) h1 T.cl_Web T.na_Web__ties rfl H (Same.refl _) _ fun v H1 e ev => ?_
    subst ev
    refine ⟨a, ps, rfl, same_tup e t1, fun it hit => ?_⟩
    have e2 := new_same (o := TtO a it 0) hit
    exact k _ it a ps (Same.trans e e2) (Same.free e hit) upd_same (same_tup (Same.trans e e2) t1) (dpa_same (Same.trans e e2) _ _ t2)
theorem ow_Web___iter__ (T : Txt K mg) : Ow P w K mg base 1 (cA mg "Web") "__iter__" (spWIter K mg) := by
  obtain ⟨f, fd, F, hm, hb⟩ := T.f_Web___iter__
  exact ⟨f, fd, _, hm, ok_Web___iter__ F T, hb⟩
/-- len(web), list(web) -/
theorem es_lenWeb {te : TE} {σ : L2.St} {H : Hp} {w : Addr} {ts : Ts} (hz : ts.length ≤ 100) (h : EvS te σ H (IsV (.ref w))) (hw : WebAt K mg H w ts) : EvS (tCB (rOwnLen (cA mg "Web") (spWSize K mg)) (tCons te tNil)) σ H (IsV (.int (ts.length : Int))) := es_cb1 h fun v H1 e ev Q q => by
  subst ev
  obtain ⟨a, ⟨dx, h1⟩, _⟩ := web_same e hw
  exact ⟨w, dx, _, rfl, h1, w, ts, rfl, web_same e hw, fun H' e' => ⟨_, rfl, by omega, by omega, q _ _ e' rfl⟩⟩
theorem es_listWeb {te : TE} {σ : L2.St} {H : Hp} {w : Addr} {ts : Ts} (hz : ts.length ≤ 100) (h : EvS te σ H (IsV (.ref w))) (hw : WebAt K mg H w ts) :
    EvS (tCB (rOwnList K (cA mg "Web") (spWIter K mg) (spWSize K mg)) (tCons te tNil)) σ H (N0.IsD K (.list (ts.map tieD))) := es_cb1 h fun v H1 e ev Q q => by
  subst ev
  have hw1 := web_same e hw
  obtain ⟨a, ⟨dx, h1⟩, _⟩ := id hw1
  refine ⟨w, dx, _, rfl, h1, fun D hD => ?_⟩
  have eD := new_same (o := .lst []) hD
  refine ⟨w, ts, rfl, web_same eD hw1, fun H2 it b ps e2 hit0 hit hps hdp => ?_⟩
  have hw2 := web_same (Same.trans eD e2) hw1
  obtain ⟨a2, ⟨dx2, h2⟩, _⟩ := id hw2
  have nDi : D ≠ it := fun z => by rw [← z, upd_same] at hit0; cases hit0
  have pl := ties_len hdp
  refine ⟨it, b, ps, rfl, hit, by omega, ⟨dx2, _, h2⟩, nDi, w, ts, rfl, hw2, fun H3 e3 => ?_⟩
  have dD3 : H3 D = some (.lst []) := (Same.trans e2 e3) _ _ upd_same
  have hi3 : H3 it = some (TtO b it 0) := e3 _ _ hit
  refine ⟨_, rfl, by omega, by omega, hi3, same_tup e3 hps, dD3, fun H4 hD4 hk => ?_⟩
  have s14 : Same H1 H4 := fun x o hx => by
    have nx : x ≠ D := fun z => by rw [z, hD] at hx; cases hx
    have ni : x ≠ it := fun z => by
      have := eD _ _ hx
      rw [z, hit0] at this
      cases this
    rw [hk x nx ni]
    exact (Same.trans (Same.trans eD e2) e3) _ _ hx
  refine q _ _ s14 (.lst (lst_of hD4) ?_)
  have dp3 := dpa_same e3 _ _ hdp
  refine dpt_imp (H := H3) (fun p xs hp => ?_) dp3
  have keep : ∀ {u : HO}, H3 p = some u → (∀ ys, u ≠ .lst ys) → (∀ φ, u ≠ .ext φ) → H4 p = some u := fun {u} hu n1 n2 => by
    rw [hk p (fun z => by rw [z, dD3] at hu; cases hu; exact n1 _ rfl) (fun z => by rw [z, hi3] at hu; cases hu; exact n2 _ rfl)]
    exact hu
  rcases hp with (hp | ⟨u, hp⟩) | hp
  · exact .inl (.inl (keep hp (fun _ q => nomatch q) fun _ q => nomatch q))
  · exact .inl (.inr ⟨u, keep hp (fun _ q => nomatch q) fun _ q => nomatch q⟩)
  · exact .inr hp
/-! ties as data -/
def tiesD (ts : Ts) : PyData := .tuple (ts.map tieD)
theorem dp_ties {H : Hp} {a : Addr} {ts : Ts} (h : TiesT K H a ts) : Dp K H (.ref a) (tiesD ts) := by
  obtain ⟨ps, t1, t2⟩ := h
  exact .tup t1 t2
theorem tiesI {te : TE} {σ : L2.St} {H : Hp} {ts : Ts} (h : EvS te σ H (fun v H' => ∃ a, v = .ref a ∧ TiesT K H' a ts)) : EvS te σ H (N0.IsD K (tiesD ts)) := es_imp h fun v H' e ⟨a, ev, hT⟩ => ev ▸ dp_ties hT
theorem map_tieD (ts : Ts) : ts.map tieD = (ts.map rw_).map tupD := by rw [List.map_map]; rfl
theorem rw_inj : ∀ {a b : Ts}, a.map rw_ = b.map rw_ → a = b
  | [], [], _ => rfl
  | [], _ :: _, h => nomatch h
  | _ :: _, [], h => nomatch h
  | (x, y) :: a, (u, v) :: b, h => by
    rw [List.map_cons, List.map_cons, List.cons.injEq] at h
    obtain ⟨h1, h2⟩ := h
    cases h1
    rw [rw_inj h2]
theorem eqv_ties (a b : Ts) : PyData.eqv (tiesD a) (tiesD b) = decide (a = b) := by
  show PyData.eqvAll (a.map tieD) (b.map tieD) = _
  rw [map_tieD, map_tieD, eqv_rows, Bool.eq_iff_iff, decide_eq_true_iff, decide_eq_true_iff]
  exact ⟨rw_inj, fun e => by rw [e]⟩
theorem canLay_ties (ts : Ts) : (tiesD ts).canLay0 = true := by
  show PyData.canLayAll0 (ts.map tieD) = true
  rw [map_tieD, canLay_rows]
theorem depth_ties (ts : Ts) : (tiesD ts).depth ≤ 2 := by
  show PyData.depthAll (ts.map tieD) + 1 ≤ 2
  rw [map_tieD]
  have := depth_rows (ts.map rw_)
  omega
theorem shaped_ties (ts : Ts) : SeqAt.shaped (tiesD ts) = true := by
  unfold SeqAt.shaped
  rw [canLay_ties, Bool.true_and, decide_eq_true_iff]
  have := depth_ties ts
  omega
def spWEq (K : PySem.W.Frag) (mg : Str → Option Value) : Sp := fun vs H Q _ => ∃ (w : Addr) (y : V) (ts : Ts) (b : Bool), vs = [.ref w, y] ∧ WebAt K mg H w ts ∧ ((∃ u us, y = .ref u ∧ WebAt K mg H u us ∧ b = decide (ts = us)) ∨ (b = false ∧ ∃ p ys, y = .ref p ∧ SqT K H p ys)) ∧ ∀ H', Same H H' → Q (.bl b) H'
theorem ok_Web___eq__ {f : Addr} {fd : FuncData} (F : Fun K "__eq__" "Web.__eq__" st_Web___eq__ f fd) (T : Txt K mg) : FnOk P w K mg base CX0 1 f fd ["self", "other"] (spWEq K mg) := by
  refine F.ok sc_Web___eq__ (fun vs H Q E h => ?_) (fun cdv A outer s H vs Q E hr h => ?_)
  · obtain ⟨w, y, ts, b, rfl, _⟩ := h
    rfl
  · obtain ⟨w, y, ts, b, rfl, hw, hy, k⟩ := h
    refine ⟨_, (pss_one (ps_ret (pe_and (pe_callB (kcall_isi (K := K)) (by rfl) T.n_isinstance bo_isinstance (pa_cons (pv 1) (pa_cons (pe_glob rfl T.g_Web rel_ref) pa_nil))) (pe_one (pe_cmpR (kop_eqD (K := K) hr.units) (kpe_fld (K := K) (pv 0)) (kpe_fld (K := K) (pv 1)) (nomark _)))))), ?_⟩
    refine es_ret (P := IsV (.bl b)) ?_ fun v H' e ev => ev ▸ k H' e
    rcases hy with ⟨u, us, rfl, hu, rfl⟩ | ⟨rfl, p, ys, rfl, hp⟩
    · refine es_as (es_andV (a := true) (b := decide (ts = us)) (es_isC (evs_var rfl fun H1 e => ⟨_, tyx_web T (web_same e hu), kit_self⟩) es_cV) fun _ => es_as (es_eqD (tiesI (es_webTies T (es_vV rfl) hw)) (tiesI (es_webTies T (es_vV rfl) hu)) (shaped_ties _) (shaped_ties _)) (by rw [eqv_ties])) rfl
    · exact es_as (es_andV (a := false) (b := false) (es_isC (evs_var rfl fun H1 e => ⟨_, tyx_tup (same_tup e hp), T.nt_Web_tuple⟩) es_cV) fun z => nomatch z) rfl
theorem ow_Web___eq__ (T : Txt K mg) : Ow P w K mg base 1 (cA mg "Web") "__eq__" (spWEq K mg) := by
  obtain ⟨f, fd, F, hm, hb⟩ := T.f_Web___eq__
  exact ⟨f, fd, _, hm, ok_Web___eq__ F T, hb⟩
/-! texts -/
theorem es_fmtI {te : TE} {σ : L2.St} {H : Hp} {i : Int} (h : EvS te σ H (IsV (.int i))) (hz : i.natAbs.log2 < 1920) : EvS (tFmt te) σ H (IsV (.str (toString i))) := fun H1 e Q q =>
  h H1 e _ fun v H2 e2 ev => .inr ⟨i, ev, hz, q _ _ e2 rfl⟩
inductive EvJs (σ : L2.St) (H : Hp) : List TE → List Str → Prop
  | nil : EvJs σ H [] []
  | cons {t : TE} {ts : List TE} {y : Str} {ys : List Str} (h : EvS t σ H (IsV (.str y))) (hz : y.length ≤ 2000) (r : EvJs σ H ts ys) : EvJs σ H (t :: ts) (y :: ys)
theorem es_js {σ : L2.St} {H : Hp} : ∀ {ts : List TE} {ys : List Str}, EvJs σ H ts ys → ∀ (acc : Str), acc.length + 2000 * ys.length ≤ 1000000 → ∀ H1, Same H H1 → ∀ Q : Str → Hp → Prop, (∀ H2, Same H1 H2 → Q (ys.foldl (· ++ ·) acc) H2) → tJs ts acc σ H1 Q
  | [], [], _, acc, _, H1, e, Q, q => q H1 (Same.refl _)
  | t :: ts, y :: ys, .cons h hz r, acc, hl, H1, e, Q, q => h H1 e _ fun v H2 e2 ev => by
    have hl : acc.length + 2000 * (ys.length + 1) ≤ 1000000 := hl
    have ha : (acc ++ y).length = acc.length + y.length := Str.length_append _ _
    have lz : sizeLine = 2 ^ 24 := rfl
    exact ⟨y, ev, by rw [ha]; omega, es_js r (acc ++ y) (by rw [ha]; omega) H2 (Same.trans e e2) _ fun H3 e3 => q H3 (Same.trans e2 e3)⟩
theorem es_joined {σ : L2.St} {H : Hp} {ts : List TE} {ys : List Str} (h : EvJs σ H ts ys) (hn : ys.length ≤ 400) : EvS (fun σ H Q => tJs ts Str.empty σ H fun out H1 => Q (.str out) H1) σ H (IsV (.str (ys.foldl (· ++ ·) Str.empty))) := fun H1 e Q q =>
  es_js h Str.empty (by have : Str.empty.length = 0 := rfl; omega) H1 e _ fun H2 e2 => q _ _ e2 rfl
def webText (m n : Int) : Str := Str.ofString "web of " ++ toString m ++ Str.ofString " ties, " ++ toString n ++ Str.ofString " points, rank " ++ toString (m - n + 1)
theorem small_log {i : Int} (h : i.natAbs ≤ 1000) : i.natAbs.log2 < 1920 := by
  by_cases z : i.natAbs = 0
  · rw [z]; decide
  · exact Nat.lt_of_lt_of_le ((Nat.log2_lt z).mpr (Nat.lt_of_le_of_lt h (by decide : 1000 < 2 ^ 10))) (by decide)
theorem small_text {i : Int} (h : i.natAbs ≤ 1000) : (toString i : Str).length ≤ 2000 := by
  have := PyProof.Rows.int_text_len_1921 (i := i) (small_log h)
  omega
def spWStr (K : PySem.W.Frag) (mg : Str → Option Value) : Sp := fun vs H Q _ => ∃ (w : Addr) (ts : Ts) (n : Nat), vs = [.ref w] ∧ WebAt K mg H w ts ∧ Wk ts n ∧ ∀ H', Same H H' → Q (.str (webText (ts.length : Int) n)) H'
theorem ok_Web___str__ {f : Addr} {fd : FuncData} (F : Fun K "__str__" "Web.__str__" st_Web___str__ f fd) (T : Txt K mg) : FnOk P w K mg base CX0 5 f fd ["self"] (spWStr K mg) := by
  have p_Web_size : Pr P w K mg base 1 (cA mg "Web") "size" (spWSize K mg) := pr_Web_size T
  have p_Web_points : Pr P w K mg base 2 (cA mg "Web") "points" (spWPoints K mg) := pr_Web_points T
  have p_Web_rank : Pr P w K mg base 3 (cA mg "Web") "rank" (spWRank K mg) := pr_Web_rank T
  refine F.ok sc_Web___str__ (fun vs H Q E h => ?_) (fun cdv A outer s H vs Q E hr h => ?_)
  · obtain ⟨w, ts, n, rfl, _⟩ := h
    rfl
  · obtain ⟨w, ts, n, rfl, hw, hk, k⟩ := h
    refine ⟨_, (pss_one (ps_ret (pe_joined (.cons pe_str (.cons (pe_fmt (pe_p p_Web_size T.cl_Web hr (by decide) (pv 0))) (.cons pe_str (.cons (pe_fmt (pe_p p_Web_points T.cl_Web hr (by decide) (pv 0))) (.cons pe_str (.cons (pe_fmt (pe_p p_Web_rank T.cl_Web hr (by decide) (pv 0))) .nil))))))))), ?_⟩
    have hle := hk.le
    have hpn := hk.d.pts_le hk.ne
    have s1 : ((ts.length : Int)).natAbs ≤ 1000 := by omega
    have s2 : ((n : Int)).natAbs ≤ 1000 := by omega
    have s3 : ((ts.length : Int) - n + 1).natAbs ≤ 1000 := by omega
    refine es_ret (es_joined (.cons es_cV (by decide +kernel) (.cons (es_fmtI (es_size (es_vV rfl) hw) (small_log s1)) (small_text s1) (.cons es_cV (by decide +kernel) (.cons (es_fmtI (es_points (es_vV rfl) hw hk) (small_log s2)) (small_text s2) (.cons es_cV (by decide +kernel) (.cons (es_fmtI (es_rank (es_vV rfl) hw hk) (small_log s3)) (small_text s3)   .nil)))))) (by show 6 ≤ 400; decide)) fun v H' e ev => ?_
    rw [show v = _ from ev]
    have := k H' e
    rwa [show webText (ts.length : Int) n = List.foldl (· ++ ·) Str.empty [Str.ofString "web of ", toString (ts.length : Int), Str.ofString " ties, ", toString (n : Int), Str.ofString " points, rank ", toString ((ts.length : Int) - n + 1)] from by
      show _ = Str.empty ++ Str.ofString "web of " ++ toString (ts.length : Int) ++ Str.ofString " ties, " ++ toString (n : Int) ++ Str.ofString " points, rank " ++ toString ((ts.length : Int) - n + 1)
      rw [Str.empty_append]
      rfl] at this
theorem ow_Web___str__ (T : Txt K mg) : Ow P w K mg base 5 (cA mg "Web") "__str__" (spWStr K mg) := by
  obtain ⟨f, fd, F, hm, hb⟩ := T.f_Web___str__
  exact ⟨f, fd, _, hm, ok_Web___str__ F T, hb⟩
/-! rounds -/
theorem es_orV {ta tb : TE} {σ : L2.St} {H : Hp} {a b : Bool} (h : EvS ta σ H (IsV (.bl a))) (g : a = false → EvS tb σ H (IsV (.bl b))) : EvS (tOrV ta tb) σ H (IsV (.bl (a || b))) := fun H1 e Q q =>
  h H1 e _ fun v H2 e2 ev => by
    subst ev
    refine ⟨a, rfl, ?_⟩
    cases a with
    | true => exact iteT (q _ _ e2 rfl)
    | false => exact iteF (g rfl H2 (Same.trans e e2) _ fun u H3 e3 eu => q u H3 (Same.trans e2 e3) eu)
def spIsRound (K : PySem.W.Frag) : Sp := fun vs H Q _ => ∃ (a r : Addr) (ts : Ts) (ns : List Int) (p : Int), vs = [.ref a, .ref r] ∧ TiesT K H a ts ∧ SqT K H r (ns.map V.int) ∧ ns.length ≤ 1000 ∧ Road ts p ns p ∧ ∀ H', Same H H' → Q (.bl true) H'
theorem ok_is_round_in {f : Addr} {fd : FuncData} (F : Fun K "is_round_in" "is_round_in" st_is_round_in f fd) (T : Txt K mg) : FnOk P w K mg base CX0 3 f fd ["ties", "road"] (spIsRound K) := by
  have c_begin_of : Cl P w K mg base 1 "begin_of" (spBegin K) := cl_begin_of T
  have c_end_of : Cl P w K mg base 2 "end_of" (spEnd K) := cl_end_of T
  refine F.ok sc_is_round_in (fun vs H Q E h => ?_) (fun cdv A outer s H vs Q E hr h => ?_)
  · obtain ⟨a, r, ts, ns, p, rfl, _⟩ := h
    rfl
  · obtain ⟨a, r, ts, ns, p, rfl, hT, hr', hz, hR, k⟩ := h
    refine ⟨_, (pss_one (ps_ret (pe_or (pe_cmpR (kop_eqD (K := K) hr.units) (pv 1) (pe_tup pa_nil) (nomark _)) (pe_one (pe_cmpR op_eq (pe_f c_begin_of hr (by decide) rfl (pa_cons (pv 0) (pa_cons (pe_ix (kix_tup (K := K)) (pv 1) pe_int (fun _ _ => rfl)) pa_nil))) (pe_f c_end_of hr (by decide) rfl (pa_cons (pv 0) (pa_cons (pe_ix (kix_tup (K := K)) (pv 1) (pe_un un_neg pe_int) (fun _ _ => rfl)) pa_nil))) (nomark _)))))), ?_⟩
    refine es_ret (P := IsV (.bl true)) (es_as (es_orV (a := decide (ns = [])) (b := true) (es_eqT (es_vT rfl hr') es_t0) fun hb => ?_) (by cases decide (ns = []) <;> rfl)) fun v H' e ev => ev ▸ k H' e
    have hb : ns ≠ [] := of_decide_eq_false hb
    have hd := road_dir hR
    obtain ⟨t, rest, rfl⟩ := List.exists_cons_of_ne_nil hb
    have e1 : beg ts t = p := hR.2.1
    obtain ⟨t0, l, hl⟩ : ∃ t0 l, t :: rest = t0 ++ [l] := ⟨(t :: rest).dropLast, (t :: rest).getLast hb, (List.dropLast_concat_getLast hb).symm⟩
    have e2 : p = beg ts (-l) := road_last (r := t0) (t := l) (by rw [← hl]; exact hR)
    have dl : IsDir ts l := hd l (by rw [hl]; simp)
    have al : atI ((t :: rest).map V.int) (-1) = some (.int l) := by
      rw [hl, List.map_append]
      exact atI_last _ _
    refine es_as (es_eqI (i := beg ts t) (j := beg ts (-l)) (es_fn (evc (es_vV rfl) (evc (es_ixT (es_vT rfl hr') es_cV (atI_nat (j := 0) rfl)) ev0)) fun H1 e Q q => ⟨a, ts, t, rfl, ties_same e hT, hd t List.mem_cons_self, fun H' e' => q _ _ e' rfl⟩) (es_fn (evc (es_vV rfl) (evc (es_ixT (es_vT rfl hr') (es_u es_cV) al) ev0)) fun H1 e Q q => ⟨a, ts, l, rfl, ties_same e hT, dl, fun H' e' => q _ _ e' rfl⟩)) ?_
    rw [decide_eq_true (by rw [e1, ← e2])]
theorem cl_is_round_in (T : Txt K mg) : Cl P w K mg base 3 "is_round_in" (spIsRound K) := by
  obtain ⟨f, fd, F, hm, hb⟩ := T.f_is_round_in
  exact cl_of (ok_is_round_in F T) hm F.kp hb
def spTightR (K : PySem.W.Frag) (mg : Str → Option Value) : Sp := fun vs H Q _ => ∃ (w r : Addr) (ts : Ts) (ns : List Int) (p : Int), vs = [.ref w, .ref r] ∧ WebAt K mg H w ts ∧ SqT K H r (ns.map V.int) ∧ ns.length ≤ 1000 ∧ Road ts p ns p ∧ ∀ H' q u, Same H H' → Rg.RingW (Fr.red ns) u → SqT K H' q (u.map V.int) → Q (.ref q) H'
theorem ok_tight_round {f : Addr} {fd : FuncData} (F : Fun K "tight_round" "tight_round" st_tight_round f fd) (T : Txt K mg) : FnOk P w K mg base CX0 5 f fd ["web", "road"] (spTightR K mg) := by
  have c_check_web : Cl P w K mg base 1 "check_web" (spChkWeb K mg) := cl_check_web T
  have c_check_road : Cl P w K mg base 4 "check_road" (spChkRoad K mg) := cl_check_road T
  have c_is_round_in : Cl P w K mg base 3 "is_round_in" (spIsRound K) := cl_is_round_in T
  have c_reduced : Cl P w K mg base 1 "reduced" (spReduced K) := cl_reduced T
  have c_ring_of : Cl P w K mg base 2 "ring_of" (spRingOf K) := cl_ring_of T
  have p_Web_ties : Pr P w K mg base 1 (cA mg "Web") "ties" (spWTies K mg) := pr_Web_ties T
  refine F.ok sc_tight_round (fun vs H Q E h => ?_) (fun cdv A outer s H vs Q E hr h => ?_)
  · obtain ⟨w, r, ts, ns, p, rfl, _⟩ := h
    rfl
  · obtain ⟨w, r, ts, ns, p, rfl, hw, hr', hz, hR, k⟩ := h
    refine ⟨_, (pss_cons (ps_expr (pe_f c_check_web hr (by decide) rfl (pa_cons (pv 0) pa_nil))) (pss_cons (ps_expr (pe_f c_check_road hr (by decide) rfl (pa_cons (pv 0) (pa_cons (pv 1) pa_nil)))) (pss_cons (ps_if (pt_not (pt_val (pe_f c_is_round_in hr (by decide) rfl (pa_cons (pe_p p_Web_ties T.cl_Web hr (by decide) (pv 0)) (pa_cons (pv 1) pa_nil))))) (pss_one ps_never) pss_nil) (pss_one (ps_ret (pe_f c_ring_of hr (by decide) rfl (pa_cons (pe_f c_reduced hr (by decide) rfl (pa_cons (pv 1) pa_nil)) pa_nil))))))), ?_⟩
    refine drop_seq (P := IsV .non) (es_fn (evc (es_vV rfl) ev0) fun H1 e Q q => ⟨w, ts, rfl, web_same e hw, fun H' e' => q _ _ e' rfl⟩) fun H1 e1 => ?_
    have hw1 := web_same e1 hw
    have hr1 := same_tup e1 hr'
    refine drop_seq (es_chkRoad rfl rfl hw1 hr1 hz (road_isR hR)) fun H2 e2 => ?_
    have e12 := Same.trans e1 e2
    refine ifs_b (b := false) (eb_as (eb_not (eb_test (es_fnT (P := IsV (.bl true)) (us := [.ref r]) (es_tiesP (es_vV rfl) (web_same e12 hw)) (evc (es_vV rfl) ev0) fun a G e hT Q q => ⟨a, r, ts, ns, p, rfl, hT, same_tup (Same.trans e12 e) hr', hz, hR, fun H' e' => q _ _ e' rfl⟩))) rfl) (fun z => nomatch z) fun _ H3 e3 => ?_
    have e13 := Same.trans e12 e3
    refine ⟨.ref r, rfl, r, ns, rfl, .inr (same_tup e13 hr'), by omega, fun H4 q e4 hq => ?_⟩
    exact ⟨(ts.length : Int), q, Fr.red ns, rfl, hq, wd_red (road_lt hR), Nat.le_trans (len_red ns) (by omega), fun H5 q5 u e5 hu hq5 => k H5 q5 u (Same.trans (Same.trans e13 e4) e5) hu hq5⟩
theorem cl_tight_round (T : Txt K mg) : Cl P w K mg base 5 "tight_round" (spTightR K mg) := by
  obtain ⟨f, fd, F, hm, hb⟩ := T.f_tight_round
  exact cl_of (ok_tight_round F T) hm F.kp hb
/-! the surface of a web, as the law asks it -/
theorem isV_int {te : TE} {σ : L2.St} {H : Hp} {i : Int} (h : EvS te σ H (IsV (.int i))) : EvS te σ H (N0.IsD K (.int i)) := es_imp h fun v H' e ev => by rw [show v = _ from ev]; exact .int i
theorem es_neS {ta tb : TE} {σ : L2.St} {H : Hp} {v : V} (ha : EvS ta σ H (IsV v)) (hb : EvS tb σ H (IsV v)) (hs : scal v v = true) : EvS (tOp rNe ta tb) σ H (IsV (.bl false)) := fun H1 e Q q =>
  ha H1 e _ fun x H2 e2 hx => hb H2 (Same.trans e e2) _ fun y H3 e3 hy => by
    subst hx hy
    exact ⟨hs, q _ _ (Same.trans e2 e3) (by rw [decide_eq_true rfl]; rfl)⟩
theorem es_addS {ta tb : TE} {σ : L2.St} {H : Hp} {x y : Str} (ha : EvS ta σ H (IsV (.str x))) (hb : EvS tb σ H (IsV (.str y))) (hz : x.length + y.length ≤ 1000000) : EvS (tOp (fun x y H Q => ∃ i j, x = .str i ∧ y = .str j ∧ i.length + j.length ≤ sizeLine ∧ Q (.str (i ++ j)) H) ta tb) σ H (IsV (.str (x ++ y))) := fun H1 e Q q =>
  ha H1 e _ fun u H2 e2 hx => hb H2 (Same.trans e e2) _ fun v H3 e3 hy => ⟨x, y, hx, hy, Nat.le_trans hz (by show 1000000 ≤ 2 ^ 24; decide), q _ _ (Same.trans e2 e3) rfl⟩
theorem es_strI {te : TE} {σ : L2.St} {H : Hp} {i : Int} (h : EvS te σ H (IsV (.int i))) (hz : i.natAbs.log2 < 1920) : EvS (tCB (fun xs H Q => ∃ i, xs = [V.int i] ∧ i.natAbs.log2 < 1920 ∧ Q (V.str (toString i)) H) (tCons te tNil)) σ H (IsV (.str (toString i))) := es_cb1 h fun v H1 e ev Q q =>
  ⟨i, by rw [show v = _ from ev], hz, q _ _ (Same.refl _) rfl⟩
theorem set_set {σ : L2.St} {i : Nat} {a b : Option V} : (σ.set i a).set i b = σ.set i b := by
  refine List.ext_getElem? fun j => ?_
  rw [List.getElem?_set, List.getElem?_set, List.getElem?_set, List.length_set]
  split
  · rfl
  · rfl
/-- for x in ..: if (no): .. -/
theorem for_no {wi : TI} {i : Nat} {c : TT} {t x : TS} {D : Ends} {σ : L2.St} {H : Hp} {xs : List V} (hi : EvI wi σ H xs) (hne : xs ≠ []) (hc : ∀ v ∈ xs, EvB c (σ.set i (some v)) H false) (rest : ∀ H' v, Same H H' → x D (σ.set i (some v)) H') : tSeq (tFor wi (gName i) (tIfS c t tNext)) x D σ H :=
  hi H (Same.refl _) _ fun J H2 e2 W => by
    have hp : 0 < xs.length := List.length_pos_iff.mpr hne
    refine for_it W (fun j τ G => Same H2 G ∧ ((j = 0 ∧ τ = σ) ∨ ∃ v, τ = σ.set i (some v))) ⟨Same.refl _, .inl ⟨rfl, rfl⟩⟩ (fun j τ G _ p => p.1) (fun j v τ G G' hj p y => ?_) fun τ G p => ?_
    · obtain ⟨g, hτ⟩ := p
      obtain ⟨rfl, hv⟩ := y
      have em : τ.set i (some v) = σ.set i (some v) := by
        rcases hτ with ⟨_, rfl⟩ | ⟨u, rfl⟩
        · rfl
        · exact set_set
      show tIfS c t tNext _ (τ.set i (some v)) G'
      rw [em]
      exact hc v (List.mem_of_getElem? hv) _ (Same.trans e2 g) _ fun G3 g3 => ⟨Same.trans g g3, .inr ⟨v, rfl⟩⟩
    · obtain ⟨g, hτ⟩ := p
      rcases hτ with ⟨z, _⟩ | ⟨v, rfl⟩
      · omega
      · exact rest G v (Same.trans e2 g)
/-- a list of rows, made by a comprehension -/
theorem es_lcRow {wi : TI} {g : TG} {te : TE} {vs : List Nat} {σ : L2.St} {H : Hp} {ns : List Int} (f : Int → List Int) (τ : Int → L2.St) (hi : EvI wi σ H (ns.map V.int)) (hz : ns.length ≤ 1000)
    (hg : ∀ i ∈ ns, ∀ H' Q, Q (τ i) H' → g (.int i) (wipe σ vs) H' Q) (hw : ∀ i ∈ ns, wipe (τ i) vs = wipe σ vs) (he : ∀ i ∈ ns, EvS te (τ i) H (IsI K (f i))) : EvS (tLc wi g tYes te vs) σ H (N0.IsD K (rowsD (ns.map f))) := by
  let τ' : V → L2.St := fun v => match v with | .int i => τ i | _ => σ
  refine es_imp (es_lcR (b := fun _ => true) (P := fun x y H => ∃ i, x = .int i ∧ ∃ p, y = .ref p ∧ SqT K H p ((f i).map V.int)) τ' (fun x y H H1 e ⟨i, ex, p, ey, hp⟩ => ⟨i, ex, p, ey, same_tup e hp⟩) (fun x y H D zs o d ⟨i, ex, p, ey, hp⟩ => ⟨i, ex, p, ey, tup_mutl d hp⟩) hi (by rw [List.length_map]; omega)
    (fun x hx => by obtain ⟨i, h, rfl⟩ := mem_ints hx; exact hg i h) (fun x hx => by obtain ⟨i, h, rfl⟩ := mem_ints hx; exact hw i h) (fun x hx => eb_yes) fun x hx _ => by obtain ⟨i, h, rfl⟩ := mem_ints hx; exact es_imp (he i h) fun v H' e ⟨p, ev, hp⟩ => ⟨i, rfl, p, ev, hp⟩) fun v H' e ⟨D, ys, ev, d, _, yl, hp⟩ => ?_
  rw [List.filter_eq_self.mpr fun _ _ => rfl] at yl hp
  rw [List.length_map] at yl
  rw [ev]
  have key : ∀ (ns : List Int) (ys : List V), ys.length = ns.length → (∀ (i : Nat) (x y : V), (ns.map V.int)[i]? = some x → ys[i]? = some y → ∃ i, x = .int i ∧ ∃ p, y = .ref p ∧ SqT K H' p ((f i).map V.int)) → DpAll K H' ys ((ns.map f).map tupD) := fun ns => by
    induction ns with
    | nil => intro ys hl _; cases ys with
      | nil => exact .nil
      | cons y ys => cases hl
    | cons n ns ih => intro ys hl hq; cases ys with
      | nil => cases hl
      | cons y ys =>
        obtain ⟨i, ex, p, rfl, hp⟩ := hq 0 (.int n) y rfl rfl
        cases ex
        exact .cons (dp_tup hp) (ih ys (by simpa using hl) fun i x z hx hz => hq (i + 1) x z hx hz)
  exact dp_rows (lst_of d) (key ns ys yl hp)
theorem rng_V (n : Nat) : (List.range n).map (fun i => V.int (i : Nat)) = (rng n).map V.int := by
  unfold rng
  rw [List.map_map]
  rfl
theorem ei_rng {ta : TE} {σ : L2.St} {H : Hp} {n : Nat} (h : EvS ta σ H (IsV (.int (n : Int)))) (hn : n ≤ 100000) : EvI (iRng1 (tCons ta tNil)) σ H ((rng n).map V.int) := rng_V n ▸ ei_range h hn
theorem web_ob {H : Hp} {w : Addr} {ts : Ts} (h : WebAt K mg H w ts) : ∃ dx fs, H w = some (.ins (cA mg "Web") dx fs) := by
  obtain ⟨a, ⟨dx, h1⟩, _⟩ := h
  exact ⟨dx, _, h1⟩
theorem sub_tup {K : PySem.W.Frag} {C : Addr} (h : PySem.W.kitOne K (.type "tuple") (.ref C) = some false) : PySem.W.subIn K (.type "tuple") (.ref C) = some false := by
  unfold PySem.W.kitOne at h
  rw [if_neg (by simp)] at h
  unfold PySem.W.kitCls at h
  simp only at h
  split at h
  · exact h
  · cases h
/-- web == y -/
theorem es_webEq {ta tb : TE} {σ : L2.St} {H : Hp} {w : Addr} {ts us : Ts} {neg : Bool} (ha : EvS ta σ H (IsV (.ref w))) (hw : WebAt K mg H w ts) (hb : EvS tb σ H (fun v H' => ∃ u, v = .ref u ∧ WebAt K mg H' u us)) : EvS (tOp (rOwnEq neg K (cA mg "Web") (spWEq K mg)) ta tb) σ H (IsV (.bl (if neg = true then !decide (ts = us) else decide (ts = us)))) := fun H1 e Q q =>
  ha H1 e _ fun x H2 e2 ex => hb H2 (Same.trans e e2) _ fun y H3 e3 ⟨u, ey, hu⟩ => by
    subst ex ey
    have hw3 := web_same (Same.trans (Same.trans e e2) e3) hw
    obtain ⟨dx, fs, h1⟩ := web_ob hw3
    obtain ⟨dy, gs, h2⟩ := web_ob hu
    exact ⟨w, dx, fs, rfl, h1, .inl ⟨u, dy, gs, rfl, h2⟩, w, .ref u, ts, _, rfl, hw3, .inl ⟨u, us, rfl, hu, rfl⟩, fun H4 e4 => ⟨_, rfl, q _ _ (Same.trans (Same.trans e2 e3) e4) rfl⟩⟩
theorem es_webNeT {ta tb : TE} {σ : L2.St} {H : Hp} {w : Addr} {ts : Ts} (T : Txt K mg) (ha : EvS ta σ H (IsV (.ref w))) (hw : WebAt K mg H w ts) (hb : EvS tb σ H (fun v H' => ∃ p xs, v = .ref p ∧ SqT K H' p xs)) : EvS (tOp (rOwnEq true K (cA mg "Web") (spWEq K mg)) ta tb) σ H (IsV (.bl true)) := fun H1 e Q q =>
  ha H1 e _ fun x H2 e2 ex => hb H2 (Same.trans e e2) _ fun y H3 e3 ⟨p, xs, ey, hp⟩ => by
    subst ex ey
    have hw3 := web_same (Same.trans (Same.trans e e2) e3) hw
    obtain ⟨dx, fs, h1⟩ := web_ob hw3
    exact ⟨w, dx, fs, rfl, h1, .inr ⟨p, xs, rfl, hp, sub_tup T.nt_Web_tuple⟩, w, .ref p, ts, false, rfl, hw3, .inr ⟨rfl, p, xs, rfl, hp⟩, fun H4 e4 => ⟨false, rfl, q _ _ (Same.trans (Same.trans e2 e3) e4) rfl⟩⟩
/-- ties + ((0, 0),) -/
theorem es_more {i : Nat} {σ : L2.St} {H : Hp} {a : Addr} {ts : Ts} (hi : σ[i]? = some (some (.ref a))) (hT : TiesT K H a ts) (hz : ts.length ≤ 1000) (hne : ts ≠ []) : EvS (tOp (rCatA K) (tVar i) (tTup (tCons (tTup (tCons (tC (.int 0)) (tCons (tC (.int 0)) tNil))) tNil))) σ H (fun v H' => ∃ b, v = .ref b ∧ TiesT K H' b (ts ++ [(0, 0)])) := fun H1 e Q q => by
  obtain ⟨ps, t1, t2⟩ := ties_same e hT
  have tl := ties_len t2
  refine ⟨.ref a, hi, by show 2 ≤ sizeLine; decide, fun p hp => ⟨by show 1 ≤ sizeLine; decide, fun s hs => ⟨a, s, ps, [.ref p], rfl, rfl, ?_, tup_of upd_same, Nat.le_trans (by show ps.length + 1 ≤ 1001; omega) (by show 1001 ≤ 2 ^ 24; decide), fun z => ?_, fun _ z => (by cases z), fun _ _ r hr => ?_⟩⟩⟩
  · exact same_tup (Same.trans (new_same hp) (new_same hs)) t1
  · rw [z] at tl
    exact absurd (List.eq_nil_of_length_eq_zero tl.symm) hne
  · have e2 := Same.trans (Same.trans (new_same (o := .tup [V.int 0, V.int 0]) hp) (new_same (o := .tup [V.ref p]) hs)) (new_same (o := .tup (ps ++ [V.ref p])) hr)
    have hpp : upd (upd (upd H1 p (.tup [V.int 0, V.int 0])) s (.tup [V.ref p])) r (.tup (ps ++ [V.ref p])) p = some (.tup [V.int 0, V.int 0]) := (Same.trans (new_same hs) (new_same hr)) _ _ upd_same
    exact q _ _ e2 ⟨r, rfl, ps ++ [V.ref p], tup_of upd_same, dpt_app (dp_tup (ns := [0, 0]) (tup_of hpp)) (dpa_same e2 _ _ t2)⟩
def spSurf (K : PySem.W.Frag) (mg : Str → Option Value) : Sp := fun vs H Q _ => ∃ (a w : Addr) (ts : Ts) (n : Nat), vs = [.ref a, .ref w] ∧ TiesT K H a ts ∧ WebAt K mg H w ts ∧ Wk ts n ∧ 1 ≤ n ∧ ts.length ≤ 10 ∧ ∀ H', Same H H' → Q (.bl true) H'
theorem surf_eqv (ts : Ts) (x y z u : Int) : PyData.eqv (.list [tiesD ts, .int x, .int y, .int z, .int u, .list (ts.map tieD)]) (.list [tiesD ts, .int x, .int y, .int z, .int u, .list (ts.map tieD)]) = true := by
  have h1 : PyData.eqv (tiesD ts) (tiesD ts) = true := by rw [eqv_ties, decide_eq_true rfl]
  have h2 : PyData.eqv (.list (ts.map tieD)) (.list (ts.map tieD)) = true := h1
  show (PyData.eqv (tiesD ts) (tiesD ts) && ((x == x) && ((y == y) && ((z == z) && ((u == u) && (PyData.eqv (.list (ts.map tieD)) (.list (ts.map tieD)) && true)))))) = true
  rw [h1, h2]
  simp
theorem surf_shaped (ts : Ts) (x y z u : Int) : SeqAt.shaped (.list [tiesD ts, .int x, .int y, .int z, .int u, .list (ts.map tieD)]) = true := by
  unfold SeqAt.shaped
  have c1 := canLay_ties ts
  have c2 : (PyData.list (ts.map tieD)).canLay0 = true := c1
  have d1 := depth_ties ts
  have d2 : (PyData.list (ts.map tieD)).depth ≤ 2 := d1
  have e1 : (PyData.list [tiesD ts, .int x, .int y, .int z, .int u, .list (ts.map tieD)]).canLay0 = ((tiesD ts).canLay0 && (true && (true && (true && (true && ((PyData.list (ts.map tieD)).canLay0 && true)))))) := rfl
  have e2 : (PyData.list [tiesD ts, .int x, .int y, .int z, .int u, .list (ts.map tieD)]).depth = max (tiesD ts).depth (max 0 (max 0 (max 0 (max 0 (max (PyData.list (ts.map tieD)).depth 0))))) + 1 := rfl
  rw [e1, e2, c1, c2, Bool.and_eq_true, decide_eq_true_iff]
  exact ⟨rfl, by omega⟩
theorem ok__law_surface_right {f : Addr} {fd : FuncData} (F : Fun K "_law_surface_right" "_law_surface_right" st__law_surface_right f fd) (T : Txt K mg) : FnOk P w K mg base CX0 8 f fd ["ties", "web"] (spSurf K mg) := by
  have c__law_points : Cl P w K mg base 1 "_law_points" (spPoints K) := cl__law_points T
  have c__law_directed : Cl P w K mg base 1 "_law_directed" (spDirected K) := cl__law_directed T
  have c__law_begin : Cl P w K mg base 1 "_law_begin" (spBegin K) := cl__law_begin T
  have c__law_end : Cl P w K mg base 2 "_law_end" (spEnd K) := cl__law_end T
  have c__law_beginnings : Cl P w K mg base 2 "_law_beginnings" (spBegs K) := cl__law_beginnings T
  have p_Web_ties : Pr P w K mg base 1 (cA mg "Web") "ties" (spWTies K mg) := pr_Web_ties T
  have p_Web_points : Pr P w K mg base 2 (cA mg "Web") "points" (spWPoints K mg) := pr_Web_points T
  have p_Web_size : Pr P w K mg base 1 (cA mg "Web") "size" (spWSize K mg) := pr_Web_size T
  have p_Web_rank : Pr P w K mg base 3 (cA mg "Web") "rank" (spWRank K mg) := pr_Web_rank T
  have o_Web___len__ : Ow P w K mg base 1 (cA mg "Web") "__len__" (spWSize K mg) := ow_Web___len__ T
  have o_Web___iter__ : Ow P w K mg base 1 (cA mg "Web") "__iter__" (spWIter K mg) := ow_Web___iter__ T
  have o_Web___str__ : Ow P w K mg base 5 (cA mg "Web") "__str__" (spWStr K mg) := ow_Web___str__ T
  have o_Web___eq__ : Ow P w K mg base 1 (cA mg "Web") "__eq__" (spWEq K mg) := ow_Web___eq__ T
  have m_Web_begin : Mt P w K mg base 5 (cA mg "Web") "begin" (spWBegin K mg) := m_Web_begin T
  have m_Web_end : Mt P w K mg base 5 (cA mg "Web") "end" (spWEnd K mg) := m_Web_end T
  have m_Web_beginnings : Mt P w K mg base 5 (cA mg "Web") "beginnings" (spWBegs K mg) := m_Web_beginnings T
  have m_Web_loose_points : Mt P w K mg base 3 (cA mg "Web") "loose_points" (spWLoose K mg) := m_Web_loose_points T
  have k_Web : Mr P w K mg base 5 "Web" (cA mg "Web") (spWInit K mg) := k_Web T
  refine F.ok sc__law_surface_right (fun vs H Q E h => ?_) (fun cdv A outer s H vs Q E hr h => ?_)
  · obtain ⟨a, w, ts, n, rfl, _⟩ := h
    rfl
  · obtain ⟨a, w, ts, n, rfl, hT, hw, hk, hn1, hz, k⟩ := h
    refine ⟨_, (pss_cons (ps_par (i := 2) (j := 3) rfl sc__law_surface_right.nd rfl rfl (by decide) rfl rfl (pa_cons (pe_f c__law_points hr (by decide) rfl (pa_cons (pv 0) pa_nil)) (pa_cons (pe_callB (kcall_len (K := K)) (by rfl) T.n_len bo_len (pa_cons (pv 0) pa_nil)) pa_nil)) (by with_unfolding_all rfl)) (pss_cons (ps_set (i := 4) sc__law_surface_right.nd rfl (Or.inl rfl) (pe_lst (pa_cons (pe_p p_Web_ties T.cl_Web hr (by decide) (pv 1)) (pa_cons (pe_p p_Web_points T.cl_Web hr (by decide) (pv 1)) (pa_cons (pe_p p_Web_size T.cl_Web hr (by decide) (pv 1)) (pa_cons (pe_p p_Web_rank T.cl_Web hr (by decide) (pv 1)) (pa_cons (pe_callB (kcr_ownLen o_Web___len__ hr (by decide)) (by rfl) T.n_len bo_len (pa_cons (pv 1) pa_nil)) (pa_cons (pe_callTy (kcr_ownList (K := K) o_Web___iter__ o_Web___len__ rfl hr (by decide) (by decide)) (by rfl) T.n_list bo_list (pa_cons (pv 1) pa_nil)) pa_nil)))))))) (pss_cons (ps_if (pt_cmpR (kop_neD (K := K) hr.units) (pv 4) (pe_lst (pa_cons (pv 0) (pa_cons (pv 2) (pa_cons (pv 3) (pa_cons (pe_op op_add (pe_op op_sub (pv 3) (pv 2)) pe_int) (pa_cons (pv 3) (pa_cons (pe_callTy (kcall_list (K := K)) (by rfl) T.n_list bo_list (pa_cons (pv 0) pa_nil)) pa_nil))))))) (nomark _)) (pss_one (ps_ret pe_bl)) pss_nil) (pss_cons (ps_if (pt_cmpR op_ne (pe_callTy (kcr_ownStr o_Web___str__ hr (by decide)) (by rfl) T.n_str bo_str (pa_cons (pv 1) pa_nil)) (pe_op op_add_str (pe_op op_add_str (pe_op op_add_str (pe_op op_add_str (pe_op op_add_str pe_str (pe_callTy call_str_int (by rfl) T.n_str bo_str (pa_cons (pv 3) pa_nil))) pe_str) (pe_callTy call_str_int (by rfl) T.n_str bo_str (pa_cons (pv 2) pa_nil))) pe_str) (pe_callTy call_str_int (by rfl) T.n_str bo_str (pa_cons (pe_op op_add (pe_op op_sub (pv 3) (pv 2)) pe_int) pa_nil))) (nomark _)) (pss_one (ps_ret pe_bl)) pss_nil) (pss_cons (ps_for PassesOwn.never rfl (kpi_list (K := K) (pe_f c__law_directed hr (by decide) rfl (pa_cons (pv 0) pa_nil))) (pg_name (i := 5) sc__law_surface_right.nd rfl (Or.inl rfl)) (pss_one (ps_if (PW.pt (pw_or (pt_cmpR op_ne (pe_m m_Web_begin T.cl_Web hr (by decide) (pv 1) (pa_cons (pv 5) pa_nil)) (pe_f c__law_begin hr (by decide) rfl (pa_cons (pv 0) (pa_cons (pv 5) pa_nil))) (nomark _)) (pw_or1 (pt_cmpR op_ne (pe_m m_Web_end T.cl_Web hr (by decide) (pv 1) (pa_cons (pv 5) pa_nil)) (pe_f c__law_end hr (by decide) rfl (pa_cons (pv 0) (pa_cons (pv 5) pa_nil))) (nomark _))))) (pss_one (ps_ret pe_bl)) pss_nil))) (pss_cons (ps_if (pt_cmpR (kop_neD (K := K) hr.units) (pe_lc (own := [("point", 7)]) rfl sc__law_surface_right.nd (pi_range1 rfl T.n_range (pa_cons (pv 2) pa_nil)) (blkOk_by (N := nm__law_surface_right) (sc := defScope st__law_surface_right) (by decide +kernel)) (fun _ _ _ _ _ => (pg_name (i := 7) sc__law_surface_right.nd rfl (by first | exact Or.inl rfl | exact Or.inr rfl))) (fun _ _ _ _ _ => pts_nil) (fun _ _ _ _ _ => (pe_m m_Web_beginnings T.cl_Web hr (by decide) (pv 1) (pa_cons (pv 7) pa_nil)))) (pe_lc (own := [("point", 7)]) rfl sc__law_surface_right.nd (pi_range1 rfl T.n_range (pa_cons (pv 2) pa_nil)) (blkOk_by (N := nm__law_surface_right) (sc := defScope st__law_surface_right) (by decide +kernel)) (fun _ _ _ _ _ => (pg_name (i := 7) sc__law_surface_right.nd rfl (by first | exact Or.inl rfl | exact Or.inr rfl))) (fun _ _ _ _ _ => pts_nil) (fun _ _ _ _ _ => (pe_f c__law_beginnings hr (by decide) rfl (pa_cons (pv 0) (pa_cons (pv 7) pa_nil))))) (nomark _)) (pss_one (ps_ret pe_bl)) pss_nil) (pss_cons (ps_set (i := 6) sc__law_surface_right.nd rfl (Or.inl rfl) (pe_callTy (kcall_tuple (K := K)) (by rfl) T.n_tuple bo_tuple (pa_cons (pe_lc (own := [("point", 7)]) rfl sc__law_surface_right.nd (pi_range1 rfl T.n_range (pa_cons (pv 2) pa_nil)) (blkOk_by (N := nm__law_surface_right) (sc := defScope st__law_surface_right) (by decide +kernel)) (fun _ _ _ _ _ => (pg_name (i := 7) sc__law_surface_right.nd rfl (by first | exact Or.inl rfl | exact Or.inr rfl))) (fun _ _ _ _ _ => pts_one (pt_cmpR op_eq (pe_callB (kcall_len (K := K)) (by rfl) T.n_len bo_len (pa_cons (pe_f c__law_beginnings hr (by decide) rfl (pa_cons (pv 0) (pa_cons (pv 7) pa_nil))) pa_nil)) pe_int (nomark _))) (fun _ _ _ _ _ => (pv 7))) pa_nil))) (pss_one (ps_ret (pe_and (pe_cmpR (kop_eqD (K := K) hr.units) (pe_m0 m_Web_loose_points T.cl_Web hr (by decide) (pv 1)) (pv 6) (nomark _)) (pe_and (pe_cmpR (kop_ownEq (K := K) o_Web___eq__ hr (by decide)) (pv 1) (pe_k k_Web hr (by decide) rfl (pa_cons (pv 0) pa_nil)) (nomark _)) (pe_and (pe_cmpR (kop_ownNe (K := K) o_Web___eq__ T.ne_Web hr (by decide)) (pv 1) (pe_k k_Web hr (by decide) rfl (pa_cons (pe_op (kop_catA (K := K)) (pv 0) (pe_tup (pa_cons (pe_tup (pa_cons pe_int (pa_cons pe_int pa_nil))) pa_nil))) pa_nil)) (nomark _)) (pe_one (pe_cmpR (kop_ownNe (K := K) o_Web___eq__ T.ne_Web hr (by decide)) (pv 1) (pv 0) (nomark _))))))))))))))), ?_⟩
    have hpn := hk.d.pts_le hk.ne
    have full := hk.d.full hn1 hk.ne
    have s1 : ((ts.length : Int)).natAbs ≤ 1000 := by omega
    have s2 : ((n : Int)).natAbs ≤ 1000 := by omega
    have s3 : ((ts.length : Int) - n + 1).natAbs ≤ 1000 := by omega
    refine par_seq (v := .int (n : Int)) (u := .int (ts.length : Int)) (es_fn (evc (es_vV rfl) ev0) fun H1 e Q q => ⟨a, ts, n, rfl, ties_same e hT, full, by omega, fun H' e' => q _ _ e' rfl⟩) (es_lenTs rfl hT) fun H1 e1 => ?_
    have hT1 := ties_same e1 hT
    have hw1 := web_same e1 hw
    obtain ⟨dx, fs, how⟩ := web_ob hw
    refine asg_seq (P := N0.IsD K (.list [tiesD ts, .int (n : Int), .int (ts.length : Int), .int ((ts.length : Int) - n + 1), .int (ts.length : Int), .list (ts.map tieD)])) (es_lst (edc (tiesI (es_tiesP (es_vV rfl) hw1)) (edc (isV_int (es_points (es_vV rfl) hw1 hk)) (edc (isV_int (es_size (es_vV rfl) hw1)) (edc (isV_int (es_rank (es_vV rfl) hw1 hk)) (edc (isV_int (es_lenWeb (by omega) (es_vV rfl) hw1)) (edc (es_listWeb (by omega) (es_vV rfl) hw1) ed0)))))) (by show 6 ≤ 1000; decide)) fun v H2 e2 hv => ?_
    have e12 := Same.trans e1 e2
    have hT2 := ties_same e12 hT
    refine ifne_seq (es_var rfl hv) (es_lst (edc (es_var rfl (dp_ties hT2)) (edc (isV_int (es_vV rfl)) (edc (isV_int (es_vV rfl)) (edc (isV_int (es_i0 (es_i0 (es_vV rfl) (es_vV rfl)) es_cV)) (edc (isV_int (es_vV rfl)) (edc ?_ ed0)))))) (by show 6 ≤ 1000; decide)) (surf_shaped _ _ _ _ _) (surf_shaped _ _ _ _ _) (surf_eqv _ _ _ _ _) fun H3 e3 => ?_
    · obtain ⟨ps, t1, t2⟩ := id hT2
      exact fun G g R r => ⟨.ref a, rfl, a, ps, rfl, .inr (same_tup g t1), fun l hl => r _ _ (new_same hl) (.lst (lst_of upd_same) (dpa_same (Same.trans g (new_same hl)) _ _ t2))⟩
    have e13 := Same.trans e12 e3
    have hT3 := ties_same e13 hT
    have hw3 := web_same e13 hw
    have wl : (Str.ofString "web of ").length ≤ 100 := by decide +kernel
    have tl : (Str.ofString " ties, ").length ≤ 100 := by decide +kernel
    have pl : (Str.ofString " points, rank ").length ≤ 100 := by decide +kernel
    have st : EvS (tCB (rOwnStr (cA mg "Web") (spWStr K mg)) (tCons (tVar 1) tNil)) [some (.ref a), some (.ref w), some (.int (n : Int)), some (.int (ts.length : Int)), some v, none, none, none] H3 (IsV (.str (webText (ts.length : Int) n))) := es_cb1 (es_vV (v := .ref w) rfl) fun u G e eu Q q => by
      subst eu
      have hwG := web_same e hw3
      obtain ⟨dx, fs, h1⟩ := web_ob hwG
      exact ⟨w, dx, fs, rfl, h1, w, ts, n, rfl, hwG, hk, fun H' e' => ⟨_, rfl, q _ _ e' rfl⟩⟩
    have z1 := small_text s1
    have z2 := small_text s2
    have z3 := small_text s3
    refine ifno_seq (eb_test (es_neS st (es_addS (es_addS (es_addS (es_addS (es_addS es_cV (es_strI (es_vV rfl) (small_log s1)) ?_) es_cV ?_) (es_strI (es_vV rfl) (small_log s2)) ?_) es_cV ?_) (es_strI (es_i0 (es_i0 (es_vV rfl) (es_vV rfl)) es_cV) (small_log s3)) ?_) rfl)) fun H4 e4 => ?_
    · omega
    · rw [Str.length_append]; omega
    · rw [Str.length_append, Str.length_append]; omega
    · rw [Str.length_append, Str.length_append, Str.length_append]; omega
    · rw [Str.length_append, Str.length_append, Str.length_append, Str.length_append]; omega
    have e14 := Same.trans e13 e4
    have hT4 := ties_same e14 hT
    have hw4 := web_same e14 hw
    obtain ⟨wa, ⟨wx, hob⟩, _⟩ := id hw4
    refine for_no (xs := (dirs ts.length).map V.int) (ei_list (es_fn (P := fun v H' => ∃ a, v = .ref a ∧ SqL K H' a ((dirs ts.length).map V.int)) (evc (es_vV rfl) ev0) fun G e Q q => ?_)) ?_ (fun x hx => ?_) fun H5 v5 e5 => ?_
    · obtain ⟨ps, t1, t2⟩ := ties_same e hT4
      have tl := ties_len t2
      exact ⟨a, ps, rfl, t1, by omega, fun H' p e' np hp => q _ _ e' ⟨p, rfl, lst_of (by rw [← tl]; exact hp)⟩⟩
    · intro z
      have := congrArg List.length z
      rw [List.length_map, dirs_len, List.length_nil] at this
      exact hk.ne (List.eq_nil_of_length_eq_zero (by omega))
    · obtain ⟨t, ht, rfl⟩ := mem_ints hx
      have hd : IsDir ts t := mem_dirs.mp ht
      refine eb_or (eb_as (eb_test (es_neI (i := beg ts t) (j := beg ts t) (es_m (fs := [("_ties", .ref wa)]) (es_vV rfl) ⟨wx, hob⟩ rfl (evc (es_vV rfl) ev0) fun G e Q q => ⟨w, ts, t, rfl, web_same e hw4, hd, fun H' e' => q _ _ e' rfl⟩) (es_fn (evc (es_vV rfl) (evc (es_vV rfl) ev0)) fun G e Q q => ⟨a, ts, t, rfl, ties_same e hT4, hd, fun H' e' => q _ _ e' rfl⟩))) (by rw [decide_eq_true rfl]; rfl)) (eb_as (eb_test (es_neI (i := beg ts (-t)) (j := beg ts (-t)) (es_m (fs := [("_ties", .ref wa)]) (es_vV rfl) ⟨wx, hob⟩ rfl (evc (es_vV rfl) ev0) fun G e Q q => ⟨w, ts, t, rfl, web_same e hw4, hd, fun H' e' => q _ _ e' rfl⟩) (es_fn (evc (es_vV rfl) (evc (es_vV rfl) ev0)) fun G e Q q => ⟨a, ts, t, rfl, ties_same e hT4, hd, fun H' e' => q _ _ e' rfl⟩))) (by rw [decide_eq_true rfl]; rfl))
    have e15 := Same.trans e14 e5
    have hT5 := ties_same e15 hT
    have hw5 := web_same e15 hw
    obtain ⟨wa, ⟨wx, hob⟩, _⟩ := id hw5
    have rin : ∀ {i : Int}, i ∈ rng n → 0 ≤ i ∧ i < (n : Int) := fun h => mem_rng.mp h
    refine ifne_seq (d := rowsD ((rng n).map (begs ts))) (e := rowsD ((rng n).map (begs ts))) (es_lcRow (begs ts) (fun x => [some (.ref a), some (.ref w), some (.int (n : Int)), some (.int (ts.length : Int)), some v, some v5, none, some (.int x)]) (ei_rng (es_vV rfl) (by omega)) (by rw [rng_len]; omega) (fun i hi H' Q q => q) (fun i hi => rfl) fun i hi => ?_) (es_lcRow (begs ts) (fun x => [some (.ref a), some (.ref w), some (.int (n : Int)), some (.int (ts.length : Int)), some v, some v5, none, some (.int x)]) (ei_rng (es_vV rfl) (by omega)) (by rw [rng_len]; omega) (fun i hi H' Q q => q) (fun i hi => rfl) fun i hi => ?_) (shaped_rows _) (shaped_rows _) (by rw [eqv_rowsD, decide_eq_true rfl]) fun H6 e6 => ?_
    · exact es_m (fs := [("_ties", .ref wa)]) (es_vV rfl) ⟨wx, hob⟩ rfl (evc (es_vV rfl) ev0) fun G e Q q => ⟨w, ts, n, i, rfl, web_same e hw5, hk, (rin hi).1, (rin hi).2, fun H' p e' hp => q _ _ e' ⟨p, rfl, hp⟩⟩
    · exact es_fn (evc (es_vV rfl) (evc (es_vV rfl) ev0)) fun G e Q q => ⟨a, ts, i, rfl, ties_same e hT5, by omega, fun H' p e' hp => q _ _ e' ⟨p, rfl, hp⟩⟩
    have e16 := Same.trans e15 e6
    have hT6 := ties_same e16 hT
    have hw6 := web_same e16 hw
    refine asg_seq (P := IsI K (loose ts n)) (es_tupL (es_lcI (ns := rng n) (fun p => decide (((begs ts p).length : Int) = 1)) V.int (fun x => [some (.ref a), some (.ref w), some (.int (n : Int)), some (.int (ts.length : Int)), some v, some v5, none, some x]) (ei_rng (es_vV rfl) (by omega)) (by rw [rng_len]; omega) (fun i hi H' Q q => q) (fun i hi => rfl) (fun i hi => ?_) fun i hi hb => es_vV rfl)) fun v7 H7 e7 ⟨lp, ev7, hlp⟩ => ?_
    · exact eb_test (es_eqI (es_lenT (ns := begs ts i) (es_fn (evc (es_vV rfl) (evc (es_vV rfl) ev0)) fun G e Q q => ⟨a, ts, i, rfl, ties_same e hT6, by omega, fun H' p e' hp => q _ _ e' ⟨p, rfl, hp⟩⟩)) es_cV)
    subst ev7
    have e17 := Same.trans e16 e7
    have hT7 := ties_same e17 hT
    have hw7 := web_same e17 hw
    obtain ⟨wa, ⟨wx, hob⟩, _⟩ := id hw7
    have wk2 : Wk (ts ++ [(0, 0)]) n := ⟨hk.d.more (by omega) (by omega) (by omega) (by omega), by simp, by rw [List.length_append]; show ts.length + 1 ≤ 24; omega⟩
    refine es_ret (P := IsV (.bl true)) (es_as (es_andV (a := true) (b := true) (es_as (es_eqT (ns := loose ts n) (ms := loose ts n) (es_m (fs := [("_ties", .ref wa)]) (es_vV rfl) ⟨wx, hob⟩ rfl ev0 fun G e Q q => ⟨w, ts, n, rfl, web_same e hw7, hk, fun H' p e' hp => q _ _ e' ⟨p, rfl, hp⟩⟩) (es_vT rfl hlp)) (by rw [decide_eq_true rfl])) fun _ => es_as (es_andV (a := true) (b := true) (es_as (es_webEq (neg := false) (us := ts) (es_vV rfl) hw7 (es_mkWeb (n := n) (evs_var rfl fun G e => ⟨a, rfl, ties_same e hT7⟩) hk)) (by rw [if_neg (by decide), decide_eq_true rfl])) fun _ => es_as (es_andV (a := true) (b := true) (es_as (es_webEq (neg := true) (us := ts ++ [(0, 0)]) (es_vV rfl) hw7 (es_mkWeb (n := n) (es_more rfl hT7 (by omega) hk.ne) wk2)) ?_) fun _ => es_webNeT T (es_vV rfl) hw7 (evs_var rfl fun G e => ?_)) rfl) rfl) rfl) fun v H' e ev => ev ▸ k H' (Same.trans e17 e)
    · rw [if_pos rfl, decide_eq_false]
      · rfl
      · intro z
        have := congrArg List.length z
        rw [List.length_append] at this
        simp at this
    · obtain ⟨ps, t1, t2⟩ := hT7
      exact ⟨a, ps, rfl, same_tup e t1⟩
theorem cl__law_surface_right (T : Txt K mg) : Cl P w K mg base 8 "_law_surface_right" (spSurf K mg) := by
  obtain ⟨f, fd, F, hm, hb⟩ := T.f__law_surface_right
  exact cl_of (ok__law_surface_right F T) hm F.kp hb
/-! a web with a road, held against the law's own -/
theorem web_rs {H H1 : Hp} {S w : Addr} {ts : Ts} (r : Rs (some S) H H1) (h : WebAt K mg H w ts) : WebAt K mg H1 w ts := by
  obtain ⟨a, ⟨dx, h1⟩, h2⟩ := h
  exact ⟨a, ⟨dx, r.keep _ _ (r.s0.ne h1 fun _ q => nomatch q) h1⟩, ties_rs r h2⟩
section
variable {σ : L2.St} {H : Hp}
theorem es_m1 {ta te : TE} {C a : Addr} {fs : List (Str × V)} {m : Str} {sp : Sp} {ns : List Int} {P : V → Hp → Prop} (ho : EvS ta σ H (IsV (.ref a))) (hob : Ob C fs H a) (hl : fs.lookup m = none) (hv : EvS te σ H (IsI K ns))
    (hs : ∀ H1 r, Same H H1 → SqT K H1 r (ns.map V.int) → ∀ Q : VK, (∀ v H2, Same H1 H2 → P v H2 → Q v H2) → sp [.ref a, .ref r] H1 Q E0) : EvS (tMeth C m sp [] E0 ta (tCons te tNil)) σ H P := fun H1 e Q q =>
  ho H1 e _ fun v H2 e2 ev => by
    subst ev
    obtain ⟨dx, ea⟩ := ob_same (Same.trans e e2) hob
    refine ⟨a, dx, fs, rfl, ea, hl, hv H2 (Same.trans e e2) _ fun u H3 e3 ⟨r, eu, hr⟩ => ?_⟩
    subst eu
    exact hs H3 r (Same.trans (Same.trans e e2) e3) hr _ fun v H4 e4 p => q v H4 (Same.trans (Same.trans e2 e3) e4) p
theorem es_tight {i : Nat} {te : TE} {m : Str} {g : List Int → List Int} {w : Addr} {ts : Ts} {ns : List Int} {p e : Int} (hi : σ[i]? = some (some (.ref w))) (hw : WebAt K mg H w ts) (hm : ([("_ties", V.non)] : List (Str × V)).lookup m = none) (h : EvS te σ H (IsI K ns)) (hz : ns.length ≤ 1000) (hR : Road ts p ns e) : EvS (tMeth (cA mg "Web") m (spWTight K mg g) [] E0 (tVar i) (tCons te tNil)) σ H (IsI K (g ns)) := by
  obtain ⟨wa, hob, _⟩ := id hw
  refine es_m1 (es_vV hi) hob ?_ h fun H1 r e1 hr Q q => ⟨w, r, ts, ns, rfl, web_same e1 hw, hr, hz, road_isR hR, fun H' q' e' hq => q _ _ e' ⟨q', rfl, hq⟩⟩
  unfold List.lookup at hm ⊢
  split at hm
  · cases hm
  · exact hm
abbrev IsRg (K : PySem.W.Frag) (ns : List Int) : V → Hp → Prop := fun v H => ∃ p u, v = .ref p ∧ Rg.RingW (Fr.red ns) u ∧ SqT K H p (u.map V.int)
theorem es_neRg {ta tb : TE} {ns ms : List Int} (he : ∀ u, Rg.RingW (Fr.red ms) u → Rg.RingW (Fr.red ns) u) (ha : EvS ta σ H (IsRg K ns)) (hb : EvS tb σ H (IsRg K ms)) : EvS (tOp (rNeD K) ta tb) σ H (IsV (.bl false)) := fun H1 e Q q =>
  ha H1 e _ fun x H2 e2 ⟨a, u, ea, hu, hx⟩ => hb H2 (Same.trans e e2) _ fun y H3 e3 ⟨b, v, eb, hv, hy⟩ => by
    subst ea eb
    obtain rfl := Rg.ringw_uniq hu (he v hv)
    exact ne_tup (same_tup e3 hx) hy (q _ _ (Same.trans e2 e3) (by simp))
theorem es_tRound {i : Nat} {te : TE} {w : Addr} {ts : Ts} {ns : List Int} {p : Int} (hi : σ[i]? = some (some (.ref w))) (hw : WebAt K mg H w ts) (h : EvS te σ H (IsI K ns)) (hz : ns.length ≤ 1000) (hR : Road ts p ns p) : EvS (tFn (spTightR K mg) (tCons (tVar i) (tCons te tNil))) σ H (IsRg K ns) := fun H1 e Q q =>
  ⟨.ref w, hi, h H1 e _ fun v H2 e2 ⟨r, ev, hr⟩ => by
    subst ev
    exact ⟨w, r, ts, ns, p, rfl, web_same (Same.trans e e2) hw, hr, hz, hR, fun H' q' u e' hu hq => q _ _ (Same.trans e2 e') ⟨q', u, rfl, hu, hq⟩⟩⟩
theorem es_lawRing {i : Nat} {r : Addr} {ts : Ts} {ns : List Int} {p e' : Int} (hi : σ[i]? = some (some (.ref r))) (h : SqT K H r (ns.map V.int)) (hz : ns.length ≤ 1000) (hR : Road ts p ns e') : EvS (tFn (spLRing23 K) (tCons (tVar i) tNil)) σ H (IsRg K ns) := fun H1 e Q q =>
  ⟨.ref r, hi, (ts.length : Int), r, ns, rfl, same_tup e h, road_lt hR, hz, fun H' q' u e' hu hq => q _ _ e' ⟨q', u, rfl, hu, hq⟩⟩
theorem es_fromV {i : Nat} {te : TE} {a : Addr} {ns : List Int} (k : Nat) (hi : σ[i]? = some (some (.ref a))) (h : SqT K H a (ns.map V.int)) (hk : EvS te σ H (IsV (.int (k : Int)))) : EvS (tSl (rSlA K) (tVar i) (tPart te) tNoPart) σ H (IsI K (ns.drop k)) := fun H1 e Q q =>
  ⟨.ref a, hi, hk H1 e _ fun v H2 e2 ev => ⟨(k : Int), ev, nopart (sl_ints (same_tup (Same.trans e e2) h) fun H3 p e3 hp => q _ _ (Same.trans e2 e3) ⟨p, rfl, by rw [cutI_from] at hp; exact hp⟩)⟩⟩
theorem es_toV {i : Nat} {te : TE} {a : Addr} {ns : List Int} (k : Nat) (hi : σ[i]? = some (some (.ref a))) (h : SqT K H a (ns.map V.int)) (hk : EvS te σ H (IsV (.int (k : Int)))) : EvS (tSl (rSlA K) (tVar i) tNoPart (tPart te)) σ H (IsI K (ns.take k)) := fun H1 e Q q =>
  ⟨.ref a, hi, hk H1 e _ fun v H2 e2 ev => ⟨(k : Int), ev, sl_ints (same_tup (Same.trans e e2) h) fun H3 p e3 hp => q _ _ (Same.trans e2 e3) ⟨p, rfl, by rw [cutI_to] at hp; exact hp⟩⟩⟩
theorem tup_seq {i j : Nat} {ta tb : TE} {x : TS} {D : Ends} {P : V → Hp → Prop} (J : V → V → Hp → Prop) (ha : EvS ta σ H P) (hb : ∀ v H1, Same H H1 → P v H1 → ∀ Q' : VK, (∀ u H2, J v u H2 → Q' u H2) → tb σ H1 Q') (rest : ∀ v u H2 H3, J v u H2 → Same H2 H3 → x D ((σ.set i (some v)).set j (some u)) H3) : tSeq (tAsg (tTup (tCons ta (tCons tb tNil))) (gTup K 2 (gCons (gName i) (gCons (gName j) gNil)))) x D σ H :=
  ha H (Same.refl _) _ fun v H1 e1 hv => hb v H1 e1 hv _ fun u H2 hu => ⟨by show 2 ≤ sizeLine; decide, fun p hp => ⟨p, _, rfl, tup_of upd_same, rfl, _, _, rfl, _, _, rfl, rfl, rest v u H2 _ hu (new_same hp)⟩⟩
theorem asg_jn {te : TE} {g : TG} {u : TS} {D : Ends} (P : V → Hp → Prop) (hc : ∀ Q' : VK, (∀ v H, P v H → Q' v H) → te σ H Q') (rest : ∀ v H, P v H → g v σ H (u D)) : tSeq (tAsg te g) u D σ H := hc _ rest
theorem if_join {c : TT} {t u x : TS} {D : Ends} (J : L2.St → Hp → Prop) (rest : ∀ τ G, J τ G → x D τ G) (h : ∀ x' : L2.St → Hp → Prop, (∀ τ G, J τ G → x' τ G) → tIfS c t u { D with nx := x' } σ H) : tSeq (tIfS c t u) x D σ H := h _ rest
end
def spRight : Sp := fun vs H Q _ => ∃ S : Addr, vs = [.ref S] ∧ Sk H (some S) ∧ ∀ H', Rs (some S) H H' → Q (.bl true) H'
theorem ok__law_right {f : Addr} {fd : FuncData} (F : Fun K "_law_right" "_law_right" st__law_right f fd) (T : Txt K mg) : FnOk P w K mg base CX0 9 f fd ["jar"] spRight := by
  have c__law_web_drawn : Cl P w K mg base 3 "_law_web_drawn" (spWebD K) := cl__law_web_drawn T
  have c__law_pour : Cl P w K mg base 1 "_law_pour" spDrawn := cl__law_pour T
  have c__law_points : Cl P w K mg base 1 "_law_points" (spPoints K) := cl__law_points T
  have c__law_surface_right : Cl P w K mg base 8 "_law_surface_right" (spSurf K mg) := cl__law_surface_right T
  have c__law_walk : Cl P w K mg base 3 "_law_walk" (spWalk K) := cl__law_walk T
  have c__law_puffed : Cl P w K mg base 3 "_law_puffed" (spPuff K) := cl__law_puffed T
  have c__law_bare : Cl P w K mg base 1 "_law_bare" (spLBare K) := cl__law_bare T
  have c__law_back : Cl P w K mg base 1 "_law_back" (spOpp K) := cl__law_back T
  have c__law_end : Cl P w K mg base 2 "_law_end" (spEnd K) := cl__law_end T
  have c_tight_round : Cl P w K mg base 5 "tight_round" (spTightR K mg) := cl_tight_round T
  have c__law_ring : Cl P w K mg base 2 "_law_ring" (spLRing23 K) := cl__law_ring T
  have c__law_near : Cl P w K mg base 3 "_law_near" (spNearW K) := cl__law_near T
  have c__law_is_road : Cl P w K mg base 3 "_law_is_road" (spIsRoadL K) := cl__law_is_road T
  have k_Web : Mr P w K mg base 5 "Web" (cA mg "Web") (spWInit K mg) := k_Web T
  have m_Web_tight : Mt P w K mg base 5 (cA mg "Web") "tight" (spWTight K mg Fr.red) := m_Web_tight T
  have m_Web_gone_back : Mt P w K mg base 5 (cA mg "Web") "gone_back" (spWTight K mg Fr.opp) := m_Web_gone_back T
  have m_Web_is_road : Mt P w K mg base 4 (cA mg "Web") "is_road" (spWIsRoad K mg) := m_Web_is_road T
  refine F.ok sc__law_right (fun vs H Q E h => ?_) (fun cdv A outer s H vs Q E hr h => ?_)
  · obtain ⟨S, rfl, _⟩ := h
    rfl
  · obtain ⟨S, rfl, hS, k⟩ := h
    refine ⟨_, (pss_cons (ps_set (i := 1) sc__law_right.nd rfl (Or.inr rfl) (pe_f c__law_web_drawn hr (by decide) rfl (pa_cons (pv 0) (pa_cons pe_int (pa_cons pe_int pa_nil))))) (pss_cons (ps_asg (pe_tup (pa_cons (pe_k k_Web hr (by decide) rfl (pa_cons (pv 1) pa_nil)) (pa_cons (pe_f c__law_pour hr (by decide) rfl (pa_cons (pv 0) (pa_cons (pe_f c__law_points hr (by decide) rfl (pa_cons (pv 1) pa_nil)) pa_nil))) pa_nil))) (kpg_tup (K := K) (n := 2) rfl (pgs_cons (pg_name (i := 2) sc__law_right.nd rfl (Or.inr rfl)) (pgs_cons (pg_name (i := 3) sc__law_right.nd rfl (Or.inl rfl)) pgs_nil)))) (pss_cons (ps_if (pt_not (pt_val (pe_f c__law_surface_right hr (by decide) rfl (pa_cons (pv 1) (pa_cons (pv 2) pa_nil))))) (pss_one (ps_ret pe_bl)) pss_nil) (pss_cons (ps_set (i := 4) sc__law_right.nd rfl (Or.inl rfl) (pe_f c__law_walk hr (by decide) rfl (pa_cons (pv 0) (pa_cons (pv 1) (pa_cons (pv 3) (pa_cons (pe_f c__law_pour hr (by decide) rfl (pa_cons (pv 0) (pa_cons pe_int pa_nil))) pa_nil)))))) (pss_cons (ps_set (i := 5) sc__law_right.nd rfl (Or.inl rfl) (pe_f c__law_puffed hr (by decide) rfl (pa_cons (pv 0) (pa_cons (pv 1) (pa_cons (pv 4) (pa_cons (pv 3) pa_nil)))))) (pss_cons (ps_set (i := 6) sc__law_right.nd rfl (Or.inl rfl) (pe_f c__law_bare hr (by decide) rfl (pa_cons (pv 4) pa_nil))) (pss_cons (ps_if (PW.pt (pw_or (pt_cmpR (kop_neD (K := K) hr.units) (pe_m m_Web_tight T.cl_Web hr (by decide) (pv 2) (pa_cons (pv 4) pa_nil)) (pv 6) (nomark _)) (pw_or (pt_cmpR (kop_neD (K := K) hr.units) (pe_m m_Web_tight T.cl_Web hr (by decide) (pv 2) (pa_cons (pv 5) pa_nil)) (pv 6) (nomark _)) (pw_or1 (pt_cmpR (kop_neD (K := K) hr.units) (pe_m m_Web_tight T.cl_Web hr (by decide) (pv 2) (pa_cons (pv 6) pa_nil)) (pv 6) (nomark _)))))) (pss_one (ps_ret pe_bl)) pss_nil) (pss_cons (ps_if (PW.pt (pw_or (pt_cmpR (kop_neD (K := K) hr.units) (pe_m m_Web_gone_back T.cl_Web hr (by decide) (pv 2) (pa_cons (pv 4) pa_nil)) (pe_f c__law_back hr (by decide) rfl (pa_cons (pv 4) pa_nil)) (nomark _)) (pw_or1 (pt_cmpR (kop_neD (K := K) hr.units) (pe_m m_Web_tight T.cl_Web hr (by decide) (pv 2) (pa_cons (pe_op (kop_catA (K := K)) (pv 4) (pe_f c__law_back hr (by decide) rfl (pa_cons (pv 4) pa_nil))) pa_nil)) (pe_tup pa_nil) (nomark _))))) (pss_one (ps_ret pe_bl)) pss_nil) (pss_cons (ps_set (i := 7) sc__law_right.nd rfl (Or.inl rfl) (pe_ifExp (pt_cmpR (kop_neD (K := K) hr.units) (pv 4) (pe_tup pa_nil) (nomark _)) (pe_f c__law_end hr (by decide) rfl (pa_cons (pv 1) (pa_cons (pe_ix (kix_tup (K := K)) (pv 4) (pe_un un_neg pe_int) (fun _ _ => rfl)) pa_nil))) (pv 3))) (pss_cons (ps_if (PW.pt (pw_and (pt_cmpR op_eq (pv 7) (pv 3) (nomark _)) (pw_and1 (pt_cmpR (kop_neD (K := K) hr.units) (pv 4) (pe_tup pa_nil) (nomark _))))) (pss_cons (ps_if (PW.pt (pw_or (pt_cmpR (kop_neD (K := K) hr.units) (pe_f c_tight_round hr (by decide) rfl (pa_cons (pv 2) (pa_cons (pv 4) pa_nil))) (pe_f c__law_ring hr (by decide) rfl (pa_cons (pv 4) pa_nil)) (nomark _)) (pw_or1 (pt_cmpR (kop_neD (K := K) hr.units) (pe_f c_tight_round hr (by decide) rfl (pa_cons (pv 2) (pa_cons (pv 5) pa_nil))) (pe_f c__law_ring hr (by decide) rfl (pa_cons (pv 4) pa_nil)) (nomark _))))) (pss_one (ps_ret pe_bl)) pss_nil) (pss_cons (ps_set (i := 8) sc__law_right.nd rfl (Or.inl rfl) (pe_f c__law_pour hr (by decide) rfl (pa_cons (pv 0) (pa_cons (pe_callB (kcall_len (K := K)) (by rfl) T.n_len bo_len (pa_cons (pv 4) pa_nil)) pa_nil)))) (pss_one (ps_if (pt_cmpR (kop_neD (K := K) hr.units) (pe_f c_tight_round hr (by decide) rfl (pa_cons (pv 2) (pa_cons (pe_op (kop_catA (K := K)) (pe_slice (ksl_tupA (K := K)) (pv 4) (po_some (pv 8)) po_none) (pe_slice (ksl_tupA (K := K)) (pv 4) po_none (po_some (pv 8)))) pa_nil))) (pe_f c__law_ring hr (by decide) rfl (pa_cons (pv 4) pa_nil)) (nomark _)) (pss_one (ps_ret pe_bl)) pss_nil)))) pss_nil) (pss_one (ps_ret (pe_cmpR (kop_eqD (K := K) hr.units) (pe_lc (own := [("value", 9)]) rfl sc__law_right.nd (kpi_list (K := K) (pe_f c__law_near hr (by decide) rfl (pa_cons (pv 0) (pa_cons (pv 1) (pa_cons (pv 4) pa_nil))))) (blkOk_by (N := nm__law_right) (sc := defScope st__law_right) (by decide +kernel)) (fun _ _ _ _ _ => (pg_name (i := 9) sc__law_right.nd rfl (by first | exact Or.inl rfl | exact Or.inr rfl))) (fun _ _ _ _ _ => pts_one (pt_cmpR op_ne (pe_m m_Web_is_road T.cl_Web hr (by decide) (pv 2) (pa_cons (pv 9) pa_nil)) (pe_f c__law_is_road hr (by decide) rfl (pa_cons (pv 1) (pa_cons (pv 9) pa_nil))) (nomark _))) (fun _ _ _ _ _ => (pv 9))) (pe_lst pa_nil) (nomark _)))))))))))))), ?_⟩
    refine ⟨.ref S, rfl, S, rfl, hS, fun H1 a ts n rb hT d n1 n5 hne hz hrk => ?_⟩
    have wk : Wk ts n := ⟨d, hne, by omega⟩
    have full := d.full n1 hne
    refine tup_seq (P := fun v H' => ∃ w, v = .ref w ∧ WebAt K mg H' w ts) (fun v u G => ∃ w s, v = .ref w ∧ u = .int s ∧ WebAt K mg G w ts ∧ TiesT K G a ts ∧ Rs (some S) H G ∧ 0 ≤ s ∧ s < (n : Int)) (es_mkWeb (n := n) (evs_var rfl fun G e => ⟨a, rfl, ties_same e hT⟩) wk) (fun v H2 e2 ⟨w, ev, hw⟩ Q' hQ => ?_) fun v u H4 H5 hJ e5 => ?_
    · have rb := rb.tr (.same rb.s1 e2)
      exact ⟨.ref S, rfl, .ref a, rfl, a, ts, n, rfl, ties_same e2 hT, full, by omega, fun H3 e3 => ⟨S, (n : Int), rfl, rb.s1.same e3, by omega, Int.lt_of_le_of_lt (b := 5) (by omega) (by decide), fun H4 s r4 s0 s1 => hQ _ _ ⟨w, s, ev, rfl, web_rs r4 (web_same e3 hw), ties_rs r4 (ties_same (Same.trans e2 e3) hT), (rb.tr (.same rb.s1 e3)).tr r4, s0, s1⟩⟩⟩
    obtain ⟨w, s, rfl, rfl, hw, hT, rb, s0, s1⟩ := hJ
    have hT := ties_same e5 hT
    have hw := web_same e5 hw
    have rb := rb.tr (.same rb.s1 e5)
    clear e5
    refine ifno_seq (eb_as (eb_not (eb_bt (es_fn (P := IsV (.bl true)) (evc (es_vV rfl) (evc (es_vV rfl) ev0)) fun G e Q q => ⟨a, w, ts, n, rfl, ties_same e hT, web_same e hw, wk, n1, hz, fun H' e' => q _ _ e' rfl⟩))) rfl) fun H6 e6 => ?_
    have hT := ties_same e6 hT
    have hw := web_same e6 hw
    have rb := rb.tr (.same rb.s1 e6)
    clear e6
    refine ⟨.ref S, rfl, .ref a, rfl, .int s, rfl, .ref S, rfl, S, 12, rfl, rb.s1, by decide, by decide, fun H7 c r7 c0 c1 => ⟨S, a, ts, n, s, c, rfl, r7.s1, ties_rs r7 hT, d, hne, by omega, s0, s1, c0, by omega, fun H8 pr row e r8 hrow hR hl => ?_⟩⟩
    have r78 := r7.tr r8
    have hT := ties_rs r78 hT
    have hw := web_rs r78 hw
    have rb := rb.tr r78
    clear r7 r8 r78
    refine ⟨.ref S, rfl, .ref a, rfl, .ref pr, rfl, .int s, rfl, S, a, pr, ts, n, row, s, e, rfl, rb.s1, hT, d, hne, by omega, s0, s1, hrow, hR, by omega, fun H9 pm more r9 hmore hRm hred hml hmne => ?_⟩
    have hT := ties_rs r9 hT
    have hw := web_rs r9 hw
    have hrow := r9.tup hrow
    have rb := rb.tr r9
    clear r9
    refine ⟨.ref pr, rfl, pr, row, rfl, .inr hrow, by omega, fun H10 pd e10 hdue => ?_⟩
    have hT := ties_same e10 hT
    have hw := web_same e10 hw
    have hrow := same_tup e10 hrow
    have hmore := same_tup e10 hmore
    have rb := rb.tr (.same rb.s1 e10)
    clear e10
    have ldue : (Fr.red row).length ≤ 1000 := Nat.le_trans (len_red row) (by omega)
    dsimp only
    refine ifno_seq (eb_or (eb_as (eb_test (es_neT (es_tight rfl hw rfl (es_vT rfl hrow) (by omega) hR) (es_vT rfl hdue))) (by simp)) (eb_or (eb_as (eb_test (es_neT (es_tight rfl hw rfl (es_vT rfl hmore) (by omega) hRm) (es_vT rfl hdue))) (by simp [hred])) (eb_as (eb_test (es_neT (es_tight rfl hw rfl (es_vT rfl hdue) ldue (road_red hR)) (es_vT rfl hdue))) (by simp [Fr.red_red])))) fun H11 e11 => ?_
    have hT := ties_same e11 hT
    have hw := web_same e11 hw
    have hrow := same_tup e11 hrow
    have hmore := same_tup e11 hmore
    have rb := rb.tr (.same rb.s1 e11)
    clear e11 hdue
    refine ifno_seq (eb_or (eb_as (eb_test (es_neT (es_tight rfl hw rfl (es_vT rfl hrow) (by omega) hR) (es_oppI rfl hrow (by omega)))) (by simp)) (eb_as (eb_test (es_neT (es_tight rfl hw rfl (es_cat (es_vT rfl hrow) (es_oppI rfl hrow (by omega)) (by rw [Fr.opp_len]; omega)) (by rw [List.length_append, Fr.opp_len]; omega) (road_app hR (road_opp hR))) es_t0)) (by simp [Fr.red_opp_self]))) fun H12 e12 => ?_
    have hT := ties_same e12 hT
    have hw := web_same e12 hw
    have hrow := same_tup e12 hrow
    have hmore := same_tup e12 hmore
    have rb := rb.tr (.same rb.s1 e12)
    clear e12
    refine asg_seq (P := IsV (.int e)) (es_if (b := !decide (row = [])) (eb_test (es_neT (es_vT rfl hrow) es_t0)) (fun hb => ?_) fun hb => ?_) fun v7 H13 e13 ev7 => ?_
    · have hb : row ≠ [] := by simpa using hb
      obtain ⟨t0, l, hl0⟩ : ∃ t0 l, row = t0 ++ [l] := ⟨row.dropLast, row.getLast hb, (List.dropLast_concat_getLast hb).symm⟩
      have dl : IsDir ts l := road_dir hR l (by rw [hl0]; simp)
      have al : atI (row.map V.int) (-1) = some (.int l) := by
        rw [hl0, List.map_append]
        exact atI_last _ _
      have e2 : e = beg ts (-l) := road_last (r := t0) (t := l) (by rw [← hl0]; exact hR)
      rw [e2]
      exact es_fn (evc (es_vV rfl) (evc (es_ixT (es_vT rfl hrow) (es_u es_cV) al) ev0)) fun H1 e' Q q => ⟨a, ts, l, rfl, ties_same e' hT, dl, fun H' e'' => q _ _ e'' rfl⟩
    · have hb : row = [] := by simpa using hb
      subst hb
      have hR : s = e := hR
      subst hR
      exact es_vV rfl
    subst ev7
    have hT := ties_same e13 hT
    have hw := web_same e13 hw
    have hrow := same_tup e13 hrow
    have hmore := same_tup e13 hmore
    have rb := rb.tr (.same rb.s1 e13)
    clear e13
    refine if_join (fun τ G => Rs (some S) H13 G ∧ ∃ x8, τ = [some (.ref S), some (.ref a), some (.ref w), some (.int s), some (.ref pr), some (.ref pm), some (.ref pd), some (.int e), x8, none]) (fun τ G hJ => ?_) fun x' hx' => ?_
    · obtain ⟨rg, x8, rfl⟩ := hJ
      have hT := ties_rs rg hT
      have hw := web_rs rg hw
      have hrow := rg.tup hrow
      have rb := rb.tr rg
      clear rg
      refine ⟨.ref S, rfl, .ref a, rfl, .ref pr, rfl, S, a, pr, ts, row, rfl, rb.s1, hT, hne, by omega, hrow, by omega, fun G2 p xs r2 hp hSp hxl hx => ⟨p, rfl, ⟨xs, lst_of hp⟩, ?_⟩⟩
      have hT := ties_rs r2 hT
      have hw := web_rs r2 hw
      have rb := rb.tr r2
      obtain ⟨wa, hob, _⟩ := id hw
      have lc : EvS (tLc (fun _ H R => R (Itl K p) H) (gName 9) (tTest (tOp rNe (tMeth (cA mg "Web") "is_road" (spWIsRoad K mg) [] E0 (tVar 2) (tCons (tVar 9) tNil)) (tFn (spIsRoadL K) (tCons (tVar 1) (tCons (tVar 9) tNil))))) (tVar 9) [9]) [some (.ref S), some (.ref a), some (.ref w), some (.int s), some (.ref pr), some (.ref pm), some (.ref pd), some (.int e), x8, none] G2 (LstD K true) := es_imp (es_lcV (xs := xs) (b := fun _ => false) (fun v => v) (fun x => [some (.ref S), some (.ref a), some (.ref w), some (.int s), some (.ref pr), some (.ref pm), some (.ref pd), some (.int e), x8, some x]) (fun G3 e3 R hR' => hR' _ _ (Same.refl _) (walk_listS (same_lst e3 (lst_of hp)))) (by omega) (fun x hx' H' Q q => q) (fun x hx' => rfl) (fun x hx' => by
          obtain ⟨o, ho⟩ := hx x hx'
          exact eb_test (es_neS (v := .bl (roadB ts o)) (es_m (fs := [("_ties", .ref wa)]) (es_vV rfl) hob rfl (evc (es_vV rfl) ev0) fun G e Q q => ⟨w, ts, x, o, rfl, web_same e hw, var_same e ho, fun H' e' => q _ _ e' rfl⟩) (es_fn (evc (es_vV rfl) (evc (es_vV rfl) ev0)) fun G e Q q => ⟨a, ts, x, o, rfl, ties_same e hT, var_same e ho, fun H' e' => q _ _ e' rfl⟩) rfl)) (fun x hx' z => (nomatch z))) fun v H' e' ⟨D, ev, hD, _⟩ => by
        subst ev
        refine lstD_of (ys := []) ?_ fun y hy => (nomatch hy)
        rw [hD, List.filter_eq_nil_iff.mpr fun _ _ => (by simp)]
        rfl
      exact es_ret (D := { nx := fun _ H' => Q .non H', rt := Q }) (es_eqNil lc) fun v H' e' ev => ev ▸ k H' (rb.tr (.same rb.s1 e'))
    · refine ifs_1 (b := decide (e = s) && !decide (row = [])) (eb_and2 (eb_test (es_eqI (es_vV rfl) (es_vV rfl))) fun _ => eb_test (es_neT (es_vT rfl hrow) es_t0)) (fun hb G1 g1 => ?_) fun hb G1 g1 => hx' _ _ ⟨.same rb.s1 g1, none, rfl⟩
      obtain ⟨he, hne'⟩ : e = s ∧ row ≠ [] := by simpa using hb
      subst he
      have hT := ties_same g1 hT
      have hw := web_same g1 hw
      have hrow := same_tup g1 hrow
      have hmore := same_tup g1 hmore
      refine ifno_seq (eb_or (eb_test (es_neRg (fun u hu => hu) (es_tRound rfl hw (es_vT rfl hrow) (by omega) hR) (es_lawRing rfl hrow (by omega) hR))) (eb_test (es_neRg (fun u hu => by rw [hred]; exact hu) (es_tRound rfl hw (es_vT rfl hmore) (by omega) hRm) (es_lawRing rfl hrow (by omega) hR)))) fun G2 g2 => ?_
      have hT := ties_same g2 hT
      have hw := web_same g2 hw
      have hrow := same_tup g2 hrow
      have rg := Rs.same (S := some S) rb.s1 (Same.trans g1 g2)
      have hpos : 0 < row.length := List.length_pos_iff.mpr hne'
      refine asg_jn (fun v G => ∃ m : Nat, v = .int (m : Int) ∧ m < row.length ∧ Rs (some S) G2 G) (fun Q' hQ => ⟨.ref S, rfl, es_lenT (es_vT rfl hrow) G2 (Same.refl _) _ fun v G3 g3 ev => ⟨S, (row.length : Int), by rw [show v = _ from ev], rg.s1.same g3, by omega, Int.lt_of_le_of_lt (b := 500) (by omega) (by decide), fun G4 u r4 u0 u1 => hQ _ _ ⟨u.toNat, by rw [Int.toNat_of_nonneg u0], by omega, (Rs.same rg.s1 g3).tr r4⟩⟩⟩) fun v G3 hv => ?_
      obtain ⟨m, rfl, hm, r3⟩ := hv
      have hw := web_rs r3 hw
      have hrow := r3.tup hrow
      obtain ⟨q, hq⟩ := road_rot hR m
      refine ifs_1 (b := false) (eb_test (es_neRg (fun u hu => ring_rot_ (road_lt hR) m hu) (es_tRound rfl hw (es_cat (es_fromV m rfl hrow (es_vV rfl)) (es_toV m rfl hrow (es_vV rfl)) (by rw [List.length_drop, List.length_take]; omega)) (by rw [List.length_append, List.length_drop, List.length_take]; omega) hq) (es_lawRing rfl hrow (by omega) hR))) (fun z => (nomatch z)) fun _ G4 g4 => hx' _ _ ⟨(rg.tr r3).tr (.same r3.s1 g4), some (.int (m : Int)), rfl⟩
theorem cl__law_right (T : Txt K mg) : Cl P w K mg base 9 "_law_right" spRight := by
  obtain ⟨f, fd, F, hm, hb⟩ := T.f__law_right
  exact cl_of (ok__law_right F T) hm F.kp hb
def spLaw (K : PySem.W.Frag) : Sp := fun vs H Q _ => ∃ (a : Addr) (ns : List Int), vs = [.ref a] ∧ SqL K H a (ns.map V.int) ∧ ns.length ≤ 63 ∧ ∀ H', Q (.bl true) H'
def th3 : Ts := [(0, 1), (0, 1), (0, 1)]
def th2 : Ts := [(0, 1), (1, 1)]
theorem wk3 : Wk th3 2 := ⟨((drawn_one.leaf (o := 0) (t := (0, 1)) (by decide) (by decide) (.inr rfl)).more (b := 0) (e := 1) (by decide) (by decide) (by decide) (by decide)).more (b := 0) (e := 1) (by decide) (by decide) (by decide) (by decide), by decide, by decide⟩
theorem wk2 : Wk th2 2 := ⟨(drawn_one.leaf (o := 0) (t := (0, 1)) (by decide) (by decide) (.inr rfl)).more (b := 1) (e := 1) (by decide) (by decide) (by decide) (by decide), by decide, by decide⟩
def round3 : List Int := [1, -2, 3, -3, 2, -1]
theorem road3 : Road th3 0 round3 0 := by
  simp only [Road, round3]
  decide
section
variable {σ : L2.St} {H : Hp}
theorem es_pair (i j : Int) : EvS (tTup (tCons (tC (.int i)) (tCons (tC (.int j)) tNil))) σ H (N0.IsD K (tieD (i, j))) := es_tup (edc (es_int i) (edc (es_int j) ed0)) (by show 2 ≤ 1000; decide)
theorem es_tiesD {te : TE} {ts : Ts} (h : EvS te σ H (N0.IsD K (tiesD ts))) : EvS te σ H (fun v H' => ∃ a, v = .ref a ∧ TiesT K H' a ts) := es_imp h fun v H' e hv => by
  cases hv with
  | tup ha hd => exact ⟨_, rfl, _, ha, hd⟩
theorem es_looseN {te : TE} {ts : Ts} {n : Nat} (h : EvS te σ H (fun v H' => ∃ w, v = .ref w ∧ WebAt K mg H' w ts)) (hk : Wk ts n) : EvS (tMeth (cA mg "Web") "loose_points" (spWLoose K mg) [] E0 te tNil) σ H (IsI K (loose ts n)) := fun H1 e Q q =>
  h H1 e _ fun v H2 e2 ⟨w, ev, hw⟩ => by
    subst ev
    obtain ⟨wa, ⟨dx, ho⟩, _⟩ := id hw
    exact ⟨w, dx, _, rfl, ho, rfl, w, ts, n, rfl, hw, hk, fun H' q' e' hq => q _ _ (Same.trans e2 e') ⟨q', rfl, hq⟩⟩
theorem es_neD {ta tb : TE} {d e : PyData} (ha : EvS ta σ H (N0.IsD K d)) (hb : EvS tb σ H (N0.IsD K e)) (s1 : SeqAt.shaped d = true) (s2 : SeqAt.shaped e = true) (he : PyData.eqv d e = true) : EvS (tOp (rNeD K) ta tb) σ H (IsV (.bl false)) := fun H1 q1 Q q =>
  ha H1 q1 _ fun v H2 e2 hv => hb H2 (Same.trans q1 e2) _ fun u H3 e3 hu => ⟨d, e, dp_same e3 _ _ hv, hu, s1, s2, q _ _ (Same.trans e2 e3) (by rw [he]; rfl)⟩
theorem es_isRoadI {i : Nat} {te : TE} {w : Addr} {ts : Ts} {ns : List Int} (hi : σ[i]? = some (some (.ref w))) (hw : WebAt K mg H w ts) (h : EvS te σ H (IsI K ns)) (hz : ns.length ≤ 1000) : EvS (tMeth (cA mg "Web") "is_road" (spWIsRoad K mg) [] E0 (tVar i) (tCons te tNil)) σ H (IsV (.bl (roadB ts (some (ns.map some))))) := by
  obtain ⟨wa, hob, _⟩ := id hw
  exact es_m1 (es_vV hi) hob rfl h fun H1 r e1 hr Q q => ⟨w, ts, .ref r, _, rfl, web_same e1 hw, var_ints hr hz, fun H' e' => q _ _ e' rfl⟩
end
theorem ok_law {f : Addr} {fd : FuncData} (F : Fun K "law" "law" st_law f fd) (T : Txt K mg) : FnOk P w K mg base CX0 10 f fd ["script"] (spLaw K) := by
  have c__law_right : Cl P w K mg base 9 "_law_right" spRight := cl__law_right T
  have c__law_jar : Cl P w K mg base 1 "_law_jar" (spJar K) := cl__law_jar T
  have c_tight_round : Cl P w K mg base 5 "tight_round" (spTightR K mg) := cl_tight_round T
  have k_Web : Mr P w K mg base 5 "Web" (cA mg "Web") (spWInit K mg) := k_Web T
  have p_Web_points : Pr P w K mg base 2 (cA mg "Web") "points" (spWPoints K mg) := pr_Web_points T
  have p_Web_rank : Pr P w K mg base 3 (cA mg "Web") "rank" (spWRank K mg) := pr_Web_rank T
  have m_Web_beginnings : Mt P w K mg base 5 (cA mg "Web") "beginnings" (spWBegs K mg) := m_Web_beginnings T
  have m_Web_loose_points : Mt P w K mg base 3 (cA mg "Web") "loose_points" (spWLoose K mg) := m_Web_loose_points T
  have m_Web_tight : Mt P w K mg base 5 (cA mg "Web") "tight" (spWTight K mg Fr.red) := m_Web_tight T
  have m_Web_is_road : Mt P w K mg base 4 (cA mg "Web") "is_road" (spWIsRoad K mg) := m_Web_is_road T
  refine F.ok sc_law (fun vs H Q E h => ?_) (fun cdv A outer s H vs Q E hr h => ?_)
  · obtain ⟨a, ns, rfl, _⟩ := h
    rfl
  · obtain ⟨a, ns, rfl, h, hl, k⟩ := h
    refine ⟨_, (pss_cons (ps_for PassesOwn.never rfl (pi_range1 rfl T.n_range (pa_cons (pe_callB (call_max2 rfl) (by rfl) T.n_max bo_max (pa_cons pe_int (pa_cons (pe_callB (call_min2 rfl) (by rfl) T.n_min bo_min (pa_cons pe_int (pa_cons (pe_callB (kcall_len (K := K)) (by rfl) T.n_len bo_len (pa_cons (pv 0) pa_nil)) pa_nil))) pa_nil))) pa_nil)) (pg_name (i := 1) sc_law.nd rfl (Or.inl rfl)) (pss_one (ps_if (pt_not (pt_val (pe_f c__law_right hr (by decide) rfl (pa_cons (pe_f c__law_jar hr (by decide) rfl (pa_cons (pv 0) (pa_cons (pv 1) pa_nil))) pa_nil)))) (pss_one (ps_ret pe_bl)) pss_nil))) (pss_cons (ps_set (i := 2) sc_law.nd rfl (Or.inl rfl) (pe_k k_Web hr (by decide) rfl (pa_cons (pe_tup (pa_cons (pe_tup (pa_cons pe_int (pa_cons pe_int pa_nil))) (pa_cons (pe_tup (pa_cons pe_int (pa_cons pe_int pa_nil))) (pa_cons (pe_tup (pa_cons pe_int (pa_cons pe_int pa_nil))) pa_nil)))) pa_nil))) (pss_cons (ps_set (i := 3) sc_law.nd rfl (Or.inl rfl) (pe_lst (pa_cons (pe_p p_Web_points T.cl_Web hr (by decide) (pv 2)) (pa_cons (pe_p p_Web_rank T.cl_Web hr (by decide) (pv 2)) (pa_cons (pe_m m_Web_beginnings T.cl_Web hr (by decide) (pv 2) (pa_cons pe_int pa_nil)) (pa_cons (pe_m m_Web_tight T.cl_Web hr (by decide) (pv 2) (pa_cons (pe_tup (pa_cons pe_int (pa_cons (pe_un un_neg pe_int) (pa_cons pe_int (pa_cons (pe_un un_neg pe_int) pa_nil))))) pa_nil)) (pa_cons (pe_m0 m_Web_loose_points T.cl_Web hr (by decide) (pv 2)) pa_nil))))))) (pss_cons (ps_if (PW.pt (pw_or (pt_cmpR (kop_neD (K := K) hr.units) (pv 3) (pe_lst (pa_cons pe_int (pa_cons pe_int (pa_cons (pe_tup (pa_cons (pe_un un_neg pe_int) (pa_cons (pe_un un_neg pe_int) (pa_cons (pe_un un_neg pe_int) pa_nil)))) (pa_cons (pe_tup (pa_cons pe_int (pa_cons (pe_un un_neg pe_int) pa_nil))) (pa_cons (pe_tup pa_nil) pa_nil)))))) (nomark _)) (pw_or (pt_val (pe_m m_Web_is_road T.cl_Web hr (by decide) (pv 2) (pa_cons (pe_tup (pa_cons pe_int (pa_cons pe_int pa_nil))) pa_nil))) (pw_or1 (pt_not (pt_val (pe_m m_Web_is_road T.cl_Web hr (by decide) (pv 2) (pa_cons (pe_tup pa_nil) pa_nil)))))))) (pss_one (ps_ret pe_bl)) pss_nil) (pss_one (ps_ret (pe_and (pe_cmpR (kop_eqD (K := K) hr.units) (pe_m0 m_Web_loose_points T.cl_Web hr (by decide) (pe_k k_Web hr (by decide) rfl (pa_cons (pe_tup (pa_cons (pe_tup (pa_cons pe_int (pa_cons pe_int pa_nil))) (pa_cons (pe_tup (pa_cons pe_int (pa_cons pe_int pa_nil))) pa_nil))) pa_nil))) (pe_tup (pa_cons pe_int pa_nil)) (nomark _)) (pe_one (pe_cmpR (kop_eqD (K := K) hr.units) (pe_f c_tight_round hr (by decide) rfl (pa_cons (pv 2) (pa_cons (pe_tup (pa_cons pe_int (pa_cons (pe_un un_neg pe_int) (pa_cons pe_int (pa_cons (pe_un un_neg pe_int) (pa_cons pe_int (pa_cons (pe_un un_neg pe_int) pa_nil))))))) pa_nil))) (pe_tup pa_nil) (nomark _)))))))))), ?_⟩
    refine ⟨.ref a, rfl, a, _, rfl, .inl h, _, _, rfl, _, _, rfl, _, rfl, by split <;> split <;> omega, by split <;> split <;> omega, for_range (lo := 0) (fun i σ H' => Same H H' ∧ ∃ x, σ = [some (.ref a), x, none, none]) ⟨Same.refl _, none, rfl⟩ (fun i σ H' hi p => ?_) fun σ H' p => ?_⟩
    · obtain ⟨s1, x, rfl⟩ := p
      have h1 : SqL K H' a (ns.map V.int) := (Rs.same (S := none) True.intro s1).lst (fun q => nomatch q) h
      refine ⟨.ref a, rfl, _, rfl, a, ns, _, rfl, h1, by omega, fun H1 S e1 hS hs => ⟨S, rfl, hs, fun H2 r2 => ⟨true, rfl, ?_⟩⟩⟩
      exact ⟨Same.trans s1 fun b o e => r2.keep b o (fun q => by
        cases q
        rw [hS] at e
        cases e) (e1 b o e), _, rfl⟩
    · obtain ⟨s1, x, rfl⟩ := p
      clear s1 h hl
      dsimp only
      refine asg_seq (P := fun v H' => ∃ w, v = .ref w ∧ WebAt K mg H' w th3) (es_mkWeb (n := 2) (es_tiesD (es_tup (edc (es_pair 0 1) (edc (es_pair 0 1) (edc (es_pair 0 1) ed0))) (by decide))) wk3) fun v H1 e1 ⟨w, ev, hw⟩ => ?_
      subst ev
      obtain ⟨wa, hob, _⟩ := id hw
      refine asg_seq (P := N0.IsD K (.list [.int 2, .int 2, tupD [-3, -2, -1], tupD [1, -3], tupD []])) (es_lst (edc (isV_int (es_points (es_vV rfl) hw wk3)) (edc (isV_int (es_as (es_rank (es_vV rfl) hw wk3) (by decide))) (edc (row_es (ns := [-3, -2, -1]) (es_m (fs := [("_ties", .ref wa)]) (es_vV rfl) hob rfl (evc es_cV ev0) fun G e Q q => ⟨w, th3, 2, 1, rfl, web_same e hw, wk3, by decide, by decide, fun H' p e' hp => q _ _ e' ⟨p, rfl, by rw [show begs th3 1 = [-3, -2, -1] by decide] at hp; exact hp⟩⟩)) (edc (row_es (ns := [1, -3]) (es_imp (es_tight (e := 0) (p := 0) rfl hw rfl (es_row [1, -2, 2, -3] (es_tup (edc (es_int 1) (edc (es_neg 2) (edc (es_int 2) (edc (es_neg 3) ed0)))) (by decide))) (by decide) (by simp only [Road]; decide)) fun v H' e ⟨p, ev, hp⟩ => ⟨p, ev, by rw [show Fr.red [1, -2, 2, -3] = [1, -3] by decide] at hp; exact hp⟩)) (edc (row_es (ns := []) (es_m (fs := [("_ties", .ref wa)]) (es_vV rfl) hob rfl ev0 fun G e Q q => ⟨w, th3, 2, rfl, web_same e hw, wk3, fun H' p e' hp => q _ _ e' ⟨p, rfl, by rw [show loose th3 2 = [] by decide] at hp; exact hp⟩⟩)) ed0))))) (by decide)) fun v H2 e2 hv => ?_
      have hw := web_same e2 hw
      refine ifno_seq (eb_or (eb_test (es_neD (es_var rfl hv) (es_lst (edc (es_int 2) (edc (es_int 2) (edc (es_tup (edc (es_neg 3) (edc (es_neg 2) (edc (es_neg 1) ed0))) (by decide)) (edc (es_tup (edc (es_int 1) (edc (es_neg 3) ed0)) (by decide)) (edc (es_tup ed0 (by decide)) ed0))))) (by decide)) (by decide +kernel) (by decide +kernel) (by decide +kernel))) (eb_or (eb_as (eb_bt (es_isRoadI (ns := [1, 2]) rfl hw (es_row [1, 2] (es_tup (edc (es_int 1) (edc (es_int 2) ed0)) (by decide))) (by decide))) (by decide)) (eb_as (eb_not (eb_bt (es_isRoadI (ns := []) rfl hw es_t0 (by decide)))) (by decide)))) fun H3 e3 => ?_
      have hw := web_same e3 hw
      refine es_ret (P := IsV (.bl true)) (es_as (es_andV (a := true) (b := true) (es_as (es_eqT (es_looseN (es_mkWeb (n := 2) (es_tiesD (ts := th2) (es_tup (edc (es_pair 0 1) (edc (es_pair 1 1) ed0)) (by decide))) wk2) wk2) (es_t1 es_cV)) (by decide)) fun _ => es_as (es_eqT (ns := []) (es_imp (es_tRound (ns := round3) (p := 0) rfl hw (es_row round3 (es_tup (edc (es_int 1) (edc (es_neg 2) (edc (es_int 3) (edc (es_neg 3) (edc (es_int 2) (edc (es_neg 1) ed0)))))) (by decide))) (by decide) road3) fun v H' e ⟨p, u, ev, hu, hp⟩ => ?_) es_t0) (by decide)) rfl) fun v H' e ev => ev ▸ k H'
      rw [show Fr.red round3 = [] by decide] at hu
      obtain rfl := Rg.ringw_uniq (⟨[], [], Rg.spl_nil, Rg.ring_nil⟩ : Rg.RingW [] []) hu
      exact ⟨p, ev, hp⟩
end
theorem all_mk {P : Program} {w : World} {K : PySem.W.Frag} {h : Heap} {mg : Str → Option Value} {fa : Addr}
    {C_Web : Addr}
    {f1 : Addr} {od1 an1 : Option Addr} {sl1 : Array (Option Value)} {oc1 kV1 dc1 pm1 cd1 ct1 : Value}
    {f2 : Addr} {od2 an2 : Option Addr} {sl2 : Array (Option Value)} {oc2 kV2 dc2 pm2 cd2 ct2 : Value}
    {f3 : Addr} {od3 an3 : Option Addr} {sl3 : Array (Option Value)} {oc3 kV3 dc3 pm3 cd3 ct3 : Value}
    {f4 : Addr} {od4 an4 : Option Addr} {sl4 : Array (Option Value)} {oc4 kV4 dc4 pm4 cd4 ct4 : Value}
    {f5 : Addr} {od5 an5 : Option Addr} {sl5 : Array (Option Value)} {oc5 kV5 dc5 pm5 cd5 ct5 : Value}
    {f6 : Addr} {od6 an6 : Option Addr} {sl6 : Array (Option Value)} {oc6 kV6 dc6 pm6 cd6 ct6 : Value}
    {f7 : Addr} {od7 an7 : Option Addr} {sl7 : Array (Option Value)} {oc7 kV7 dc7 pm7 cd7 ct7 : Value}
    {f8 : Addr} {od8 an8 : Option Addr} {sl8 : Array (Option Value)} {oc8 kV8 dc8 pm8 cd8 ct8 : Value}
    {f9 : Addr} {od9 an9 : Option Addr} {sl9 : Array (Option Value)} {oc9 kV9 dc9 pm9 cd9 ct9 : Value}
    {f10 : Addr} {od10 an10 : Option Addr} {sl10 : Array (Option Value)} {oc10 kV10 dc10 pm10 cd10 ct10 : Value}
    {f11 : Addr} {od11 an11 : Option Addr} {sl11 : Array (Option Value)} {oc11 kV11 dc11 pm11 cd11 ct11 : Value}
    {f12 : Addr} {od12 an12 : Option Addr} {sl12 : Array (Option Value)} {oc12 kV12 dc12 pm12 cd12 ct12 : Value}
    {f13 : Addr} {od13 an13 : Option Addr} {sl13 : Array (Option Value)} {oc13 kV13 dc13 pm13 cd13 ct13 : Value}
    {f14 : Addr} {od14 an14 : Option Addr} {sl14 : Array (Option Value)} {oc14 kV14 dc14 pm14 cd14 ct14 : Value}
    {f15 : Addr} {od15 an15 : Option Addr} {sl15 : Array (Option Value)} {oc15 kV15 dc15 pm15 cd15 ct15 : Value}
    {f16 : Addr} {od16 an16 : Option Addr} {sl16 : Array (Option Value)} {oc16 kV16 dc16 pm16 cd16 ct16 : Value}
    {f17 : Addr} {od17 an17 : Option Addr} {sl17 : Array (Option Value)} {oc17 kV17 dc17 pm17 cd17 ct17 : Value}
    {f18 : Addr} {od18 an18 : Option Addr} {sl18 : Array (Option Value)} {oc18 kV18 dc18 pm18 cd18 ct18 : Value}
    {f19 : Addr} {od19 an19 : Option Addr} {sl19 : Array (Option Value)} {oc19 kV19 dc19 pm19 cd19 ct19 : Value}
    {f20 : Addr} {od20 an20 : Option Addr} {sl20 : Array (Option Value)} {oc20 kV20 dc20 pm20 cd20 ct20 : Value}
    {f21 : Addr} {od21 an21 : Option Addr} {sl21 : Array (Option Value)} {oc21 kV21 dc21 pm21 cd21 ct21 : Value}
    {f22 : Addr} {od22 an22 : Option Addr} {sl22 : Array (Option Value)} {oc22 kV22 dc22 pm22 cd22 ct22 : Value}
    {f23 : Addr} {od23 an23 : Option Addr} {sl23 : Array (Option Value)} {oc23 kV23 dc23 pm23 cd23 ct23 : Value}
    {f24 : Addr} {od24 an24 : Option Addr} {sl24 : Array (Option Value)} {oc24 kV24 dc24 pm24 cd24 ct24 : Value}
    {f25 : Addr} {od25 an25 : Option Addr} {sl25 : Array (Option Value)} {oc25 kV25 dc25 pm25 cd25 ct25 : Value}
    {f26 : Addr} {od26 an26 : Option Addr} {sl26 : Array (Option Value)} {oc26 kV26 dc26 pm26 cd26 ct26 : Value}
    {f27 : Addr} {od27 an27 : Option Addr} {sl27 : Array (Option Value)} {oc27 kV27 dc27 pm27 cd27 ct27 : Value}
    {f28 : Addr} {od28 an28 : Option Addr} {sl28 : Array (Option Value)} {oc28 kV28 dc28 pm28 cd28 ct28 : Value}
    {f29 : Addr} {od29 an29 : Option Addr} {sl29 : Array (Option Value)} {oc29 kV29 dc29 pm29 cd29 ct29 : Value}
    {f30 : Addr} {od30 an30 : Option Addr} {sl30 : Array (Option Value)} {oc30 kV30 dc30 pm30 cd30 ct30 : Value}
    {f31 : Addr} {od31 an31 : Option Addr} {sl31 : Array (Option Value)} {oc31 kV31 dc31 pm31 cd31 ct31 : Value}
    {f32 : Addr} {od32 an32 : Option Addr} {sl32 : Array (Option Value)} {oc32 kV32 dc32 pm32 cd32 ct32 : Value}
    {f33 : Addr} {od33 an33 : Option Addr} {sl33 : Array (Option Value)} {oc33 kV33 dc33 pm33 cd33 ct33 : Value}
    {f34 : Addr} {od34 an34 : Option Addr} {sl34 : Array (Option Value)} {oc34 kV34 dc34 pm34 cd34 ct34 : Value}
    {f35 : Addr} {od35 an35 : Option Addr} {sl35 : Array (Option Value)} {oc35 kV35 dc35 pm35 cd35 ct35 : Value}
    {f36 : Addr} {od36 an36 : Option Addr} {sl36 : Array (Option Value)} {oc36 kV36 dc36 pm36 cd36 ct36 : Value}
    {f37 : Addr} {od37 an37 : Option Addr} {sl37 : Array (Option Value)} {oc37 kV37 dc37 pm37 cd37 ct37 : Value}
    {f38 : Addr} {od38 an38 : Option Addr} {sl38 : Array (Option Value)} {oc38 kV38 dc38 pm38 cd38 ct38 : Value}
    {f39 : Addr} {od39 an39 : Option Addr} {sl39 : Array (Option Value)} {oc39 kV39 dc39 pm39 cd39 ct39 : Value}
    {f40 : Addr} {od40 an40 : Option Addr} {sl40 : Array (Option Value)} {oc40 kV40 dc40 pm40 cd40 ct40 : Value}
    {f41 : Addr} {od41 an41 : Option Addr} {sl41 : Array (Option Value)} {oc41 kV41 dc41 pm41 cd41 ct41 : Value}
    {f42 : Addr} {od42 an42 : Option Addr} {sl42 : Array (Option Value)} {oc42 kV42 dc42 pm42 cd42 ct42 : Value}
    {f43 : Addr} {od43 an43 : Option Addr} {sl43 : Array (Option Value)} {oc43 kV43 dc43 pm43 cd43 ct43 : Value}
    {f44 : Addr} {od44 an44 : Option Addr} {sl44 : Array (Option Value)} {oc44 kV44 dc44 pm44 cd44 ct44 : Value}
    {f45 : Addr} {od45 an45 : Option Addr} {sl45 : Array (Option Value)} {oc45 kV45 dc45 pm45 cd45 ct45 : Value}
    {f46 : Addr} {od46 an46 : Option Addr} {sl46 : Array (Option Value)} {oc46 kV46 dc46 pm46 cd46 ct46 : Value}
    {f47 : Addr} {od47 an47 : Option Addr} {sl47 : Array (Option Value)} {oc47 kV47 dc47 pm47 cd47 ct47 : Value}
    {p47 : Addr} {rs47 : List Value}
    {f48 : Addr} {od48 an48 : Option Addr} {sl48 : Array (Option Value)} {oc48 kV48 dc48 pm48 cd48 ct48 : Value}
    {p48 : Addr} {rs48 : List Value}
    {f49 : Addr} {od49 an49 : Option Addr} {sl49 : Array (Option Value)} {oc49 kV49 dc49 pm49 cd49 ct49 : Value}
    {p49 : Addr} {rs49 : List Value}
    {f50 : Addr} {od50 an50 : Option Addr} {sl50 : Array (Option Value)} {oc50 kV50 dc50 pm50 cd50 ct50 : Value}
    {p50 : Addr} {rs50 : List Value}
    {f51 : Addr} {od51 an51 : Option Addr} {sl51 : Array (Option Value)} {oc51 kV51 dc51 pm51 cd51 ct51 : Value}
    {f52 : Addr} {od52 an52 : Option Addr} {sl52 : Array (Option Value)} {oc52 kV52 dc52 pm52 cd52 ct52 : Value}
    {f53 : Addr} {od53 an53 : Option Addr} {sl53 : Array (Option Value)} {oc53 kV53 dc53 pm53 cd53 ct53 : Value}
    {f54 : Addr} {od54 an54 : Option Addr} {sl54 : Array (Option Value)} {oc54 kV54 dc54 pm54 cd54 ct54 : Value}
    {f55 : Addr} {od55 an55 : Option Addr} {sl55 : Array (Option Value)} {oc55 kV55 dc55 pm55 cd55 ct55 : Value}
    {f56 : Addr} {od56 an56 : Option Addr} {sl56 : Array (Option Value)} {oc56 kV56 dc56 pm56 cd56 ct56 : Value}
    {f57 : Addr} {od57 an57 : Option Addr} {sl57 : Array (Option Value)} {oc57 kV57 dc57 pm57 cd57 ct57 : Value}
    {f58 : Addr} {od58 an58 : Option Addr} {sl58 : Array (Option Value)} {oc58 kV58 dc58 pm58 cd58 ct58 : Value}
    {f59 : Addr} {od59 an59 : Option Addr} {sl59 : Array (Option Value)} {oc59 kV59 dc59 pm59 cd59 ct59 : Value}
    {f60 : Addr} {od60 an60 : Option Addr} {sl60 : Array (Option Value)} {oc60 kV60 dc60 pm60 cd60 ct60 : Value}
    {f61 : Addr} {od61 an61 : Option Addr} {sl61 : Array (Option Value)} {oc61 kV61 dc61 pm61 cd61 ct61 : Value}
    {t_MAX_TIES : Tok}
    (X : K.In h)
    (G : h.Ns mainGlobals mg)
    (hfa : mg "law" = some (.ref fa))
    (aC_Web : PySem.W.nsIn K mainGlobals "Web" = some (some (.ref C_Web)))
    (pg_Web : PySem.W.plainGet K C_Web Str.empty = true)
    (hd_Web : PySem.W.hasDictIn K C_Web = true)
    (po_Web : PySem.W.plainOver K C_Web = true)
    (sa_Web : PySem.W.findIn K (.ref C_Web) "__setattr__" = some (some (.builtin "object.__setattr__")))
    (mk_Web : PySem.W.makesIn K C_Web = true)
    (kc_Web : PySem.W.keepIn K (.ref C_Web) = true)
    (na_ties_Web : PySem.W.findIn K (.ref C_Web) "_ties" = some none)
    (ne_Web : PySem.W.findIn K (.ref C_Web) "__ne__" = some (some (.builtin "object.__ne__")))
    (ob_Web : PySem.W.mroIn K C_Web (.type "object") = some true)
    (ia_Web : PySem.W.findIn K (.ref C_Web) "__class__" = some (some (.builtin "object.__class__")))
    (ig_Web : PySem.W.specialIn K (.builtin "object.__class__") "__get__" = some (some (.builtin "getset_descriptor.__get__")))
    (it_Web : PySem.W.takesIn K (.builtin "object.__class__") = some true)
    (im_Web : PySem.W.mroIn K C_Web (.type "object") = some true)
    (nc_Web : PySem.W.isClsIn K C_Web = true)
    (ny_Web : PySem.W.typeIn K (.ref C_Web) = some (.type "type"))
    (nttuple_Web : PySem.W.subIn K (.type "tuple") (.ref C_Web) = some false)
    (a1 : PySem.W.nsIn K mainGlobals "reduced" = some (some (.ref f1)))
    (l1 : K.lookup f1 = some ⟨oc1, od1, .func (PySem.W.fnOf "reduced" "reduced" (defArgs st_reduced) (defBody st_reduced) (defScope st_reduced) .none kV1 dc1 pm1 an1 cd1 ct1), sl1⟩)
    (c1 : PySem.W.codeIn K cd1 "reduced" = true)
    (k1 : PySem.W.keepIn K (.ref f1) = true)
    (a2 : PySem.W.nsIn K mainGlobals "opposite" = some (some (.ref f2)))
    (l2 : K.lookup f2 = some ⟨oc2, od2, .func (PySem.W.fnOf "opposite" "opposite" (defArgs st_opposite) (defBody st_opposite) (defScope st_opposite) .none kV2 dc2 pm2 an2 cd2 ct2), sl2⟩)
    (c2 : PySem.W.codeIn K cd2 "opposite" = true)
    (k2 : PySem.W.keepIn K (.ref f2) = true)
    (a3 : PySem.W.nsIn K mainGlobals "split_core" = some (some (.ref f3)))
    (l3 : K.lookup f3 = some ⟨oc3, od3, .func (PySem.W.fnOf "split_core" "split_core" (defArgs st_split_core) (defBody st_split_core) (defScope st_split_core) .none kV3 dc3 pm3 an3 cd3 ct3), sl3⟩)
    (c3 : PySem.W.codeIn K cd3 "split_core" = true)
    (k3 : PySem.W.keepIn K (.ref f3) = true)
    (a4 : PySem.W.nsIn K mainGlobals "rotated" = some (some (.ref f4)))
    (l4 : K.lookup f4 = some ⟨oc4, od4, .func (PySem.W.fnOf "rotated" "rotated" (defArgs st_rotated) (defBody st_rotated) (defScope st_rotated) .none kV4 dc4 pm4 an4 cd4 ct4), sl4⟩)
    (c4 : PySem.W.codeIn K cd4 "rotated" = true)
    (k4 : PySem.W.keepIn K (.ref f4) = true)
    (a5 : PySem.W.nsIn K mainGlobals "least_start" = some (some (.ref f5)))
    (l5 : K.lookup f5 = some ⟨oc5, od5, .func (PySem.W.fnOf "least_start" "least_start" (defArgs st_least_start) (defBody st_least_start) (defScope st_least_start) .none kV5 dc5 pm5 an5 cd5 ct5), sl5⟩)
    (c5 : PySem.W.codeIn K cd5 "least_start" = true)
    (k5 : PySem.W.keepIn K (.ref f5) = true)
    (a6 : PySem.W.nsIn K mainGlobals "ring_of" = some (some (.ref f6)))
    (l6 : K.lookup f6 = some ⟨oc6, od6, .func (PySem.W.fnOf "ring_of" "ring_of" (defArgs st_ring_of) (defBody st_ring_of) (defScope st_ring_of) .none kV6 dc6 pm6 an6 cd6 ct6), sl6⟩)
    (c6 : PySem.W.codeIn K cd6 "ring_of" = true)
    (k6 : PySem.W.keepIn K (.ref f6) = true)
    (a7 : PySem.W.nsIn K mainGlobals "is_integer" = some (some (.ref f7)))
    (l7 : K.lookup f7 = some ⟨oc7, od7, .func (PySem.W.fnOf "is_integer" "is_integer" (defArgs st_is_integer) (defBody st_is_integer) (defScope st_is_integer) .none kV7 dc7 pm7 an7 cd7 ct7), sl7⟩)
    (c7 : PySem.W.codeIn K cd7 "is_integer" = true)
    (k7 : PySem.W.keepIn K (.ref f7) = true)
    (a8 : PySem.W.nsIn K mainGlobals "is_within" = some (some (.ref f8)))
    (l8 : K.lookup f8 = some ⟨oc8, od8, .func (PySem.W.fnOf "is_within" "is_within" (defArgs st_is_within) (defBody st_is_within) (defScope st_is_within) .none kV8 dc8 pm8 an8 cd8 ct8), sl8⟩)
    (c8 : PySem.W.codeIn K cd8 "is_within" = true)
    (k8 : PySem.W.keepIn K (.ref f8) = true)
    (a9 : PySem.W.nsIn K mainGlobals "entries_of" = some (some (.ref f9)))
    (l9 : K.lookup f9 = some ⟨oc9, od9, .func (PySem.W.fnOf "entries_of" "entries_of" (defArgs st_entries_of) (defBody st_entries_of) (defScope st_entries_of) .none kV9 dc9 pm9 an9 cd9 ct9), sl9⟩)
    (c9 : PySem.W.codeIn K cd9 "entries_of" = true)
    (k9 : PySem.W.keepIn K (.ref f9) = true)
    (a10 : PySem.W.nsIn K mainGlobals "begin_of" = some (some (.ref f10)))
    (l10 : K.lookup f10 = some ⟨oc10, od10, .func (PySem.W.fnOf "begin_of" "begin_of" (defArgs st_begin_of) (defBody st_begin_of) (defScope st_begin_of) .none kV10 dc10 pm10 an10 cd10 ct10), sl10⟩)
    (c10 : PySem.W.codeIn K cd10 "begin_of" = true)
    (k10 : PySem.W.keepIn K (.ref f10) = true)
    (a11 : PySem.W.nsIn K mainGlobals "end_of" = some (some (.ref f11)))
    (l11 : K.lookup f11 = some ⟨oc11, od11, .func (PySem.W.fnOf "end_of" "end_of" (defArgs st_end_of) (defBody st_end_of) (defScope st_end_of) .none kV11 dc11 pm11 an11 cd11 ct11), sl11⟩)
    (c11 : PySem.W.codeIn K cd11 "end_of" = true)
    (k11 : PySem.W.keepIn K (.ref f11) = true)
    (a12 : PySem.W.nsIn K mainGlobals "points_in" = some (some (.ref f12)))
    (l12 : K.lookup f12 = some ⟨oc12, od12, .func (PySem.W.fnOf "points_in" "points_in" (defArgs st_points_in) (defBody st_points_in) (defScope st_points_in) .none kV12 dc12 pm12 an12 cd12 ct12), sl12⟩)
    (c12 : PySem.W.codeIn K cd12 "points_in" = true)
    (k12 : PySem.W.keepIn K (.ref f12) = true)
    (a13 : PySem.W.nsIn K mainGlobals "beginnings_at" = some (some (.ref f13)))
    (l13 : K.lookup f13 = some ⟨oc13, od13, .func (PySem.W.fnOf "beginnings_at" "beginnings_at" (defArgs st_beginnings_at) (defBody st_beginnings_at) (defScope st_beginnings_at) .none kV13 dc13 pm13 an13 cd13 ct13), sl13⟩)
    (c13 : PySem.W.codeIn K cd13 "beginnings_at" = true)
    (k13 : PySem.W.keepIn K (.ref f13) = true)
    (a14 : PySem.W.nsIn K mainGlobals "is_road_in" = some (some (.ref f14)))
    (l14 : K.lookup f14 = some ⟨oc14, od14, .func (PySem.W.fnOf "is_road_in" "is_road_in" (defArgs st_is_road_in) (defBody st_is_road_in) (defScope st_is_road_in) .none kV14 dc14 pm14 an14 cd14 ct14), sl14⟩)
    (c14 : PySem.W.codeIn K cd14 "is_road_in" = true)
    (k14 : PySem.W.keepIn K (.ref f14) = true)
    (a15 : PySem.W.nsIn K mainGlobals "is_round_in" = some (some (.ref f15)))
    (l15 : K.lookup f15 = some ⟨oc15, od15, .func (PySem.W.fnOf "is_round_in" "is_round_in" (defArgs st_is_round_in) (defBody st_is_round_in) (defScope st_is_round_in) .none kV15 dc15 pm15 an15 cd15 ct15), sl15⟩)
    (c15 : PySem.W.codeIn K cd15 "is_round_in" = true)
    (k15 : PySem.W.keepIn K (.ref f15) = true)
    (a16 : PySem.W.nsIn K mainGlobals "parts_by" = some (some (.ref f16)))
    (l16 : K.lookup f16 = some ⟨oc16, od16, .func (PySem.W.fnOf "parts_by" "parts_by" (defArgs st_parts_by) (defBody st_parts_by) (defScope st_parts_by) .none kV16 dc16 pm16 an16 cd16 ct16), sl16⟩)
    (c16 : PySem.W.codeIn K cd16 "parts_by" = true)
    (k16 : PySem.W.keepIn K (.ref f16) = true)
    (a17 : PySem.W.nsIn K mainGlobals "pieces_in" = some (some (.ref f17)))
    (l17 : K.lookup f17 = some ⟨oc17, od17, .func (PySem.W.fnOf "pieces_in" "pieces_in" (defArgs st_pieces_in) (defBody st_pieces_in) (defScope st_pieces_in) .none kV17 dc17 pm17 an17 cd17 ct17), sl17⟩)
    (c17 : PySem.W.codeIn K cd17 "pieces_in" = true)
    (k17 : PySem.W.keepIn K (.ref f17) = true)
    (a18 : PySem.W.nsIn K mainGlobals "rank_of_ties" = some (some (.ref f18)))
    (l18 : K.lookup f18 = some ⟨oc18, od18, .func (PySem.W.fnOf "rank_of_ties" "rank_of_ties" (defArgs st_rank_of_ties) (defBody st_rank_of_ties) (defScope st_rank_of_ties) .none kV18 dc18 pm18 an18 cd18 ct18), sl18⟩)
    (c18 : PySem.W.codeIn K cd18 "rank_of_ties" = true)
    (k18 : PySem.W.keepIn K (.ref f18) = true)
    (a19 : PySem.W.nsIn K mainGlobals "are_ties" = some (some (.ref f19)))
    (l19 : K.lookup f19 = some ⟨oc19, od19, .func (PySem.W.fnOf "are_ties" "are_ties" (defArgs st_are_ties) (defBody st_are_ties) (defScope st_are_ties) .none kV19 dc19 pm19 an19 cd19 ct19), sl19⟩)
    (c19 : PySem.W.codeIn K cd19 "are_ties" = true)
    (k19 : PySem.W.keepIn K (.ref f19) = true)
    (a20 : PySem.W.nsIn K mainGlobals "check_web" = some (some (.ref f20)))
    (l20 : K.lookup f20 = some ⟨oc20, od20, .func (PySem.W.fnOf "check_web" "check_web" (defArgs st_check_web) (defBody st_check_web) (defScope st_check_web) .none kV20 dc20 pm20 an20 cd20 ct20), sl20⟩)
    (c20 : PySem.W.codeIn K cd20 "check_web" = true)
    (k20 : PySem.W.keepIn K (.ref f20) = true)
    (a21 : PySem.W.nsIn K mainGlobals "is_directed" = some (some (.ref f21)))
    (l21 : K.lookup f21 = some ⟨oc21, od21, .func (PySem.W.fnOf "is_directed" "is_directed" (defArgs st_is_directed) (defBody st_is_directed) (defScope st_is_directed) .none kV21 dc21 pm21 an21 cd21 ct21), sl21⟩)
    (c21 : PySem.W.codeIn K cd21 "is_directed" = true)
    (k21 : PySem.W.keepIn K (.ref f21) = true)
    (a22 : PySem.W.nsIn K mainGlobals "check_directed" = some (some (.ref f22)))
    (l22 : K.lookup f22 = some ⟨oc22, od22, .func (PySem.W.fnOf "check_directed" "check_directed" (defArgs st_check_directed) (defBody st_check_directed) (defScope st_check_directed) .none kV22 dc22 pm22 an22 cd22 ct22), sl22⟩)
    (c22 : PySem.W.codeIn K cd22 "check_directed" = true)
    (k22 : PySem.W.keepIn K (.ref f22) = true)
    (a23 : PySem.W.nsIn K mainGlobals "check_point" = some (some (.ref f23)))
    (l23 : K.lookup f23 = some ⟨oc23, od23, .func (PySem.W.fnOf "check_point" "check_point" (defArgs st_check_point) (defBody st_check_point) (defScope st_check_point) .none kV23 dc23 pm23 an23 cd23 ct23), sl23⟩)
    (c23 : PySem.W.codeIn K cd23 "check_point" = true)
    (k23 : PySem.W.keepIn K (.ref f23) = true)
    (a24 : PySem.W.nsIn K mainGlobals "check_road" = some (some (.ref f24)))
    (l24 : K.lookup f24 = some ⟨oc24, od24, .func (PySem.W.fnOf "check_road" "check_road" (defArgs st_check_road) (defBody st_check_road) (defScope st_check_road) .none kV24 dc24 pm24 an24 cd24 ct24), sl24⟩)
    (c24 : PySem.W.codeIn K cd24 "check_road" = true)
    (k24 : PySem.W.keepIn K (.ref f24) = true)
    (a25 : PySem.W.nsIn K mainGlobals "tight_round" = some (some (.ref f25)))
    (l25 : K.lookup f25 = some ⟨oc25, od25, .func (PySem.W.fnOf "tight_round" "tight_round" (defArgs st_tight_round) (defBody st_tight_round) (defScope st_tight_round) .none kV25 dc25 pm25 an25 cd25 ct25), sl25⟩)
    (c25 : PySem.W.codeIn K cd25 "tight_round" = true)
    (k25 : PySem.W.keepIn K (.ref f25) = true)
    (a26 : PySem.W.nsIn K mainGlobals "_law_jar" = some (some (.ref f26)))
    (l26 : K.lookup f26 = some ⟨oc26, od26, .func (PySem.W.fnOf "_law_jar" "_law_jar" (defArgs st__law_jar) (defBody st__law_jar) (defScope st__law_jar) .none kV26 dc26 pm26 an26 cd26 ct26), sl26⟩)
    (c26 : PySem.W.codeIn K cd26 "_law_jar" = true)
    (k26 : PySem.W.keepIn K (.ref f26) = true)
    (a27 : PySem.W.nsIn K mainGlobals "_law_pour" = some (some (.ref f27)))
    (l27 : K.lookup f27 = some ⟨oc27, od27, .func (PySem.W.fnOf "_law_pour" "_law_pour" (defArgs st__law_pour) (defBody st__law_pour) (defScope st__law_pour) .none kV27 dc27 pm27 an27 cd27 ct27), sl27⟩)
    (c27 : PySem.W.codeIn K cd27 "_law_pour" = true)
    (k27 : PySem.W.keepIn K (.ref f27) = true)
    (a28 : PySem.W.nsIn K mainGlobals "_law_choose" = some (some (.ref f28)))
    (l28 : K.lookup f28 = some ⟨oc28, od28, .func (PySem.W.fnOf "_law_choose" "_law_choose" (defArgs st__law_choose) (defBody st__law_choose) (defScope st__law_choose) .none kV28 dc28 pm28 an28 cd28 ct28), sl28⟩)
    (c28 : PySem.W.codeIn K cd28 "_law_choose" = true)
    (k28 : PySem.W.keepIn K (.ref f28) = true)
    (a29 : PySem.W.nsIn K mainGlobals "_law_begin" = some (some (.ref f29)))
    (l29 : K.lookup f29 = some ⟨oc29, od29, .func (PySem.W.fnOf "_law_begin" "_law_begin" (defArgs st__law_begin) (defBody st__law_begin) (defScope st__law_begin) .none kV29 dc29 pm29 an29 cd29 ct29), sl29⟩)
    (c29 : PySem.W.codeIn K cd29 "_law_begin" = true)
    (k29 : PySem.W.keepIn K (.ref f29) = true)
    (a30 : PySem.W.nsIn K mainGlobals "_law_end" = some (some (.ref f30)))
    (l30 : K.lookup f30 = some ⟨oc30, od30, .func (PySem.W.fnOf "_law_end" "_law_end" (defArgs st__law_end) (defBody st__law_end) (defScope st__law_end) .none kV30 dc30 pm30 an30 cd30 ct30), sl30⟩)
    (c30 : PySem.W.codeIn K cd30 "_law_end" = true)
    (k30 : PySem.W.keepIn K (.ref f30) = true)
    (a31 : PySem.W.nsIn K mainGlobals "_law_directed" = some (some (.ref f31)))
    (l31 : K.lookup f31 = some ⟨oc31, od31, .func (PySem.W.fnOf "_law_directed" "_law_directed" (defArgs st__law_directed) (defBody st__law_directed) (defScope st__law_directed) .none kV31 dc31 pm31 an31 cd31 ct31), sl31⟩)
    (c31 : PySem.W.codeIn K cd31 "_law_directed" = true)
    (k31 : PySem.W.keepIn K (.ref f31) = true)
    (a32 : PySem.W.nsIn K mainGlobals "_law_back" = some (some (.ref f32)))
    (l32 : K.lookup f32 = some ⟨oc32, od32, .func (PySem.W.fnOf "_law_back" "_law_back" (defArgs st__law_back) (defBody st__law_back) (defScope st__law_back) .none kV32 dc32 pm32 an32 cd32 ct32), sl32⟩)
    (c32 : PySem.W.codeIn K cd32 "_law_back" = true)
    (k32 : PySem.W.keepIn K (.ref f32) = true)
    (a33 : PySem.W.nsIn K mainGlobals "_law_bare" = some (some (.ref f33)))
    (l33 : K.lookup f33 = some ⟨oc33, od33, .func (PySem.W.fnOf "_law_bare" "_law_bare" (defArgs st__law_bare) (defBody st__law_bare) (defScope st__law_bare) .none kV33 dc33 pm33 an33 cd33 ct33), sl33⟩)
    (c33 : PySem.W.codeIn K cd33 "_law_bare" = true)
    (k33 : PySem.W.keepIn K (.ref f33) = true)
    (a34 : PySem.W.nsIn K mainGlobals "_law_ring" = some (some (.ref f34)))
    (l34 : K.lookup f34 = some ⟨oc34, od34, .func (PySem.W.fnOf "_law_ring" "_law_ring" (defArgs st__law_ring) (defBody st__law_ring) (defScope st__law_ring) .none kV34 dc34 pm34 an34 cd34 ct34), sl34⟩)
    (c34 : PySem.W.codeIn K cd34 "_law_ring" = true)
    (k34 : PySem.W.keepIn K (.ref f34) = true)
    (a35 : PySem.W.nsIn K mainGlobals "_law_shuffled" = some (some (.ref f35)))
    (l35 : K.lookup f35 = some ⟨oc35, od35, .func (PySem.W.fnOf "_law_shuffled" "_law_shuffled" (defArgs st__law_shuffled) (defBody st__law_shuffled) (defScope st__law_shuffled) .none kV35 dc35 pm35 an35 cd35 ct35), sl35⟩)
    (c35 : PySem.W.codeIn K cd35 "_law_shuffled" = true)
    (k35 : PySem.W.keepIn K (.ref f35) = true)
    (a36 : PySem.W.nsIn K mainGlobals "_law_web_drawn" = some (some (.ref f36)))
    (l36 : K.lookup f36 = some ⟨oc36, od36, .func (PySem.W.fnOf "_law_web_drawn" "_law_web_drawn" (defArgs st__law_web_drawn) (defBody st__law_web_drawn) (defScope st__law_web_drawn) .none kV36 dc36 pm36 an36 cd36 ct36), sl36⟩)
    (c36 : PySem.W.codeIn K cd36 "_law_web_drawn" = true)
    (k36 : PySem.W.keepIn K (.ref f36) = true)
    (a37 : PySem.W.nsIn K mainGlobals "_law_points" = some (some (.ref f37)))
    (l37 : K.lookup f37 = some ⟨oc37, od37, .func (PySem.W.fnOf "_law_points" "_law_points" (defArgs st__law_points) (defBody st__law_points) (defScope st__law_points) .none kV37 dc37 pm37 an37 cd37 ct37), sl37⟩)
    (c37 : PySem.W.codeIn K cd37 "_law_points" = true)
    (k37 : PySem.W.keepIn K (.ref f37) = true)
    (a38 : PySem.W.nsIn K mainGlobals "_law_beginnings" = some (some (.ref f38)))
    (l38 : K.lookup f38 = some ⟨oc38, od38, .func (PySem.W.fnOf "_law_beginnings" "_law_beginnings" (defArgs st__law_beginnings) (defBody st__law_beginnings) (defScope st__law_beginnings) .none kV38 dc38 pm38 an38 cd38 ct38), sl38⟩)
    (c38 : PySem.W.codeIn K cd38 "_law_beginnings" = true)
    (k38 : PySem.W.keepIn K (.ref f38) = true)
    (a39 : PySem.W.nsIn K mainGlobals "_law_walk" = some (some (.ref f39)))
    (l39 : K.lookup f39 = some ⟨oc39, od39, .func (PySem.W.fnOf "_law_walk" "_law_walk" (defArgs st__law_walk) (defBody st__law_walk) (defScope st__law_walk) .none kV39 dc39 pm39 an39 cd39 ct39), sl39⟩)
    (c39 : PySem.W.codeIn K cd39 "_law_walk" = true)
    (k39 : PySem.W.keepIn K (.ref f39) = true)
    (a40 : PySem.W.nsIn K mainGlobals "_law_is_road" = some (some (.ref f40)))
    (l40 : K.lookup f40 = some ⟨oc40, od40, .func (PySem.W.fnOf "_law_is_road" "_law_is_road" (defArgs st__law_is_road) (defBody st__law_is_road) (defScope st__law_is_road) .none kV40 dc40 pm40 an40 cd40 ct40), sl40⟩)
    (c40 : PySem.W.codeIn K cd40 "_law_is_road" = true)
    (k40 : PySem.W.keepIn K (.ref f40) = true)
    (a41 : PySem.W.nsIn K mainGlobals "_law_puffed" = some (some (.ref f41)))
    (l41 : K.lookup f41 = some ⟨oc41, od41, .func (PySem.W.fnOf "_law_puffed" "_law_puffed" (defArgs st__law_puffed) (defBody st__law_puffed) (defScope st__law_puffed) .none kV41 dc41 pm41 an41 cd41 ct41), sl41⟩)
    (c41 : PySem.W.codeIn K cd41 "_law_puffed" = true)
    (k41 : PySem.W.keepIn K (.ref f41) = true)
    (a42 : PySem.W.nsIn K mainGlobals "_law_near" = some (some (.ref f42)))
    (l42 : K.lookup f42 = some ⟨oc42, od42, .func (PySem.W.fnOf "_law_near" "_law_near" (defArgs st__law_near) (defBody st__law_near) (defScope st__law_near) .none kV42 dc42 pm42 an42 cd42 ct42), sl42⟩)
    (c42 : PySem.W.codeIn K cd42 "_law_near" = true)
    (k42 : PySem.W.keepIn K (.ref f42) = true)
    (a43 : PySem.W.nsIn K mainGlobals "_law_surface_right" = some (some (.ref f43)))
    (l43 : K.lookup f43 = some ⟨oc43, od43, .func (PySem.W.fnOf "_law_surface_right" "_law_surface_right" (defArgs st__law_surface_right) (defBody st__law_surface_right) (defScope st__law_surface_right) .none kV43 dc43 pm43 an43 cd43 ct43), sl43⟩)
    (c43 : PySem.W.codeIn K cd43 "_law_surface_right" = true)
    (k43 : PySem.W.keepIn K (.ref f43) = true)
    (a44 : PySem.W.nsIn K mainGlobals "_law_right" = some (some (.ref f44)))
    (l44 : K.lookup f44 = some ⟨oc44, od44, .func (PySem.W.fnOf "_law_right" "_law_right" (defArgs st__law_right) (defBody st__law_right) (defScope st__law_right) .none kV44 dc44 pm44 an44 cd44 ct44), sl44⟩)
    (c44 : PySem.W.codeIn K cd44 "_law_right" = true)
    (k44 : PySem.W.keepIn K (.ref f44) = true)
    (a45 : PySem.W.nsIn K mainGlobals "law" = some (some (.ref f45)))
    (l45 : K.lookup f45 = some ⟨oc45, od45, .func (PySem.W.fnOf "law" "law" (defArgs st_law) (defBody st_law) (defScope st_law) .none kV45 dc45 pm45 an45 cd45 ct45), sl45⟩)
    (c45 : PySem.W.codeIn K cd45 "law" = true)
    (k45 : PySem.W.keepIn K (.ref f45) = true)
    (a46 : PySem.W.findIn K (.ref C_Web) "__init__" = some (some (.ref f46)))
    (i46 : PySem.W.isFn K (.ref f46) = true)
    (l46 : K.lookup f46 = some ⟨oc46, od46, .func (PySem.W.fnOf "__init__" "Web.__init__" (defArgs st_Web___init__) (defBody st_Web___init__) (defScope st_Web___init__) .none kV46 dc46 pm46 an46 cd46 ct46), sl46⟩)
    (c46 : PySem.W.codeIn K cd46 "Web.__init__" = true)
    (k46 : PySem.W.keepIn K (.ref f46) = true)
    (a47 : PySem.W.findIn K (.ref C_Web) "ties" = some (some (.ref p47)))
    (g47 : PySem.W.specialIn K (.ref p47) "__get__" = some (some (.builtin "property.__get__")))
    (t47 : PySem.W.takesIn K (.ref p47) = some true)
    (r47 : PySem.W.recIn K p47 "property" = some (.ref f47 :: rs47))
    (l47 : K.lookup f47 = some ⟨oc47, od47, .func (PySem.W.fnOf "ties" "Web.ties" (defArgs st_Web_ties) (defBody st_Web_ties) (defScope st_Web_ties) .none kV47 dc47 pm47 an47 cd47 ct47), sl47⟩)
    (c47 : PySem.W.codeIn K cd47 "Web.ties" = true)
    (k47 : PySem.W.keepIn K (.ref f47) = true)
    (a48 : PySem.W.findIn K (.ref C_Web) "points" = some (some (.ref p48)))
    (g48 : PySem.W.specialIn K (.ref p48) "__get__" = some (some (.builtin "property.__get__")))
    (t48 : PySem.W.takesIn K (.ref p48) = some true)
    (r48 : PySem.W.recIn K p48 "property" = some (.ref f48 :: rs48))
    (l48 : K.lookup f48 = some ⟨oc48, od48, .func (PySem.W.fnOf "points" "Web.points" (defArgs st_Web_points) (defBody st_Web_points) (defScope st_Web_points) .none kV48 dc48 pm48 an48 cd48 ct48), sl48⟩)
    (c48 : PySem.W.codeIn K cd48 "Web.points" = true)
    (k48 : PySem.W.keepIn K (.ref f48) = true)
    (a49 : PySem.W.findIn K (.ref C_Web) "size" = some (some (.ref p49)))
    (g49 : PySem.W.specialIn K (.ref p49) "__get__" = some (some (.builtin "property.__get__")))
    (t49 : PySem.W.takesIn K (.ref p49) = some true)
    (r49 : PySem.W.recIn K p49 "property" = some (.ref f49 :: rs49))
    (l49 : K.lookup f49 = some ⟨oc49, od49, .func (PySem.W.fnOf "size" "Web.size" (defArgs st_Web_size) (defBody st_Web_size) (defScope st_Web_size) .none kV49 dc49 pm49 an49 cd49 ct49), sl49⟩)
    (c49 : PySem.W.codeIn K cd49 "Web.size" = true)
    (k49 : PySem.W.keepIn K (.ref f49) = true)
    (a50 : PySem.W.findIn K (.ref C_Web) "rank" = some (some (.ref p50)))
    (g50 : PySem.W.specialIn K (.ref p50) "__get__" = some (some (.builtin "property.__get__")))
    (t50 : PySem.W.takesIn K (.ref p50) = some true)
    (r50 : PySem.W.recIn K p50 "property" = some (.ref f50 :: rs50))
    (l50 : K.lookup f50 = some ⟨oc50, od50, .func (PySem.W.fnOf "rank" "Web.rank" (defArgs st_Web_rank) (defBody st_Web_rank) (defScope st_Web_rank) .none kV50 dc50 pm50 an50 cd50 ct50), sl50⟩)
    (c50 : PySem.W.codeIn K cd50 "Web.rank" = true)
    (k50 : PySem.W.keepIn K (.ref f50) = true)
    (a51 : PySem.W.findIn K (.ref C_Web) "begin" = some (some (.ref f51)))
    (i51 : PySem.W.isFn K (.ref f51) = true)
    (l51 : K.lookup f51 = some ⟨oc51, od51, .func (PySem.W.fnOf "begin" "Web.begin" (defArgs st_Web_begin) (defBody st_Web_begin) (defScope st_Web_begin) .none kV51 dc51 pm51 an51 cd51 ct51), sl51⟩)
    (c51 : PySem.W.codeIn K cd51 "Web.begin" = true)
    (k51 : PySem.W.keepIn K (.ref f51) = true)
    (a52 : PySem.W.findIn K (.ref C_Web) "end" = some (some (.ref f52)))
    (i52 : PySem.W.isFn K (.ref f52) = true)
    (l52 : K.lookup f52 = some ⟨oc52, od52, .func (PySem.W.fnOf "end" "Web.end" (defArgs st_Web_end) (defBody st_Web_end) (defScope st_Web_end) .none kV52 dc52 pm52 an52 cd52 ct52), sl52⟩)
    (c52 : PySem.W.codeIn K cd52 "Web.end" = true)
    (k52 : PySem.W.keepIn K (.ref f52) = true)
    (a53 : PySem.W.findIn K (.ref C_Web) "beginnings" = some (some (.ref f53)))
    (i53 : PySem.W.isFn K (.ref f53) = true)
    (l53 : K.lookup f53 = some ⟨oc53, od53, .func (PySem.W.fnOf "beginnings" "Web.beginnings" (defArgs st_Web_beginnings) (defBody st_Web_beginnings) (defScope st_Web_beginnings) .none kV53 dc53 pm53 an53 cd53 ct53), sl53⟩)
    (c53 : PySem.W.codeIn K cd53 "Web.beginnings" = true)
    (k53 : PySem.W.keepIn K (.ref f53) = true)
    (a54 : PySem.W.findIn K (.ref C_Web) "loose_points" = some (some (.ref f54)))
    (i54 : PySem.W.isFn K (.ref f54) = true)
    (l54 : K.lookup f54 = some ⟨oc54, od54, .func (PySem.W.fnOf "loose_points" "Web.loose_points" (defArgs st_Web_loose_points) (defBody st_Web_loose_points) (defScope st_Web_loose_points) .none kV54 dc54 pm54 an54 cd54 ct54), sl54⟩)
    (c54 : PySem.W.codeIn K cd54 "Web.loose_points" = true)
    (k54 : PySem.W.keepIn K (.ref f54) = true)
    (a55 : PySem.W.findIn K (.ref C_Web) "is_road" = some (some (.ref f55)))
    (i55 : PySem.W.isFn K (.ref f55) = true)
    (l55 : K.lookup f55 = some ⟨oc55, od55, .func (PySem.W.fnOf "is_road" "Web.is_road" (defArgs st_Web_is_road) (defBody st_Web_is_road) (defScope st_Web_is_road) .none kV55 dc55 pm55 an55 cd55 ct55), sl55⟩)
    (c55 : PySem.W.codeIn K cd55 "Web.is_road" = true)
    (k55 : PySem.W.keepIn K (.ref f55) = true)
    (a56 : PySem.W.findIn K (.ref C_Web) "tight" = some (some (.ref f56)))
    (i56 : PySem.W.isFn K (.ref f56) = true)
    (l56 : K.lookup f56 = some ⟨oc56, od56, .func (PySem.W.fnOf "tight" "Web.tight" (defArgs st_Web_tight) (defBody st_Web_tight) (defScope st_Web_tight) .none kV56 dc56 pm56 an56 cd56 ct56), sl56⟩)
    (c56 : PySem.W.codeIn K cd56 "Web.tight" = true)
    (k56 : PySem.W.keepIn K (.ref f56) = true)
    (a57 : PySem.W.findIn K (.ref C_Web) "gone_back" = some (some (.ref f57)))
    (i57 : PySem.W.isFn K (.ref f57) = true)
    (l57 : K.lookup f57 = some ⟨oc57, od57, .func (PySem.W.fnOf "gone_back" "Web.gone_back" (defArgs st_Web_gone_back) (defBody st_Web_gone_back) (defScope st_Web_gone_back) .none kV57 dc57 pm57 an57 cd57 ct57), sl57⟩)
    (c57 : PySem.W.codeIn K cd57 "Web.gone_back" = true)
    (k57 : PySem.W.keepIn K (.ref f57) = true)
    (a58 : PySem.W.findIn K (.ref C_Web) "__eq__" = some (some (.ref f58)))
    (i58 : PySem.W.isFn K (.ref f58) = true)
    (l58 : K.lookup f58 = some ⟨oc58, od58, .func (PySem.W.fnOf "__eq__" "Web.__eq__" (defArgs st_Web___eq__) (defBody st_Web___eq__) (defScope st_Web___eq__) .none kV58 dc58 pm58 an58 cd58 ct58), sl58⟩)
    (c58 : PySem.W.codeIn K cd58 "Web.__eq__" = true)
    (k58 : PySem.W.keepIn K (.ref f58) = true)
    (a59 : PySem.W.findIn K (.ref C_Web) "__len__" = some (some (.ref f59)))
    (i59 : PySem.W.isFn K (.ref f59) = true)
    (l59 : K.lookup f59 = some ⟨oc59, od59, .func (PySem.W.fnOf "__len__" "Web.__len__" (defArgs st_Web___len__) (defBody st_Web___len__) (defScope st_Web___len__) .none kV59 dc59 pm59 an59 cd59 ct59), sl59⟩)
    (c59 : PySem.W.codeIn K cd59 "Web.__len__" = true)
    (k59 : PySem.W.keepIn K (.ref f59) = true)
    (a60 : PySem.W.findIn K (.ref C_Web) "__iter__" = some (some (.ref f60)))
    (i60 : PySem.W.isFn K (.ref f60) = true)
    (l60 : K.lookup f60 = some ⟨oc60, od60, .func (PySem.W.fnOf "__iter__" "Web.__iter__" (defArgs st_Web___iter__) (defBody st_Web___iter__) (defScope st_Web___iter__) .none kV60 dc60 pm60 an60 cd60 ct60), sl60⟩)
    (c60 : PySem.W.codeIn K cd60 "Web.__iter__" = true)
    (k60 : PySem.W.keepIn K (.ref f60) = true)
    (a61 : PySem.W.findIn K (.ref C_Web) "__str__" = some (some (.ref f61)))
    (i61 : PySem.W.isFn K (.ref f61) = true)
    (l61 : K.lookup f61 = some ⟨oc61, od61, .func (PySem.W.fnOf "__str__" "Web.__str__" (defArgs st_Web___str__) (defBody st_Web___str__) (defScope st_Web___str__) .none kV61 dc61 pm61 an61 cd61 ct61), sl61⟩)
    (c61 : PySem.W.codeIn K cd61 "Web.__str__" = true)
    (k61 : PySem.W.keepIn K (.ref f61) = true)
    (q_MAX_TIES : PySem.W.nsIn K mainGlobals "MAX_TIES" = some (some (.int 24 t_MAX_TIES)))
    (z_abs : PySem.W.nsIn K mainGlobals "abs" = some none)
    (z_all : PySem.W.nsIn K mainGlobals "all" = some none)
    (z_bool : PySem.W.nsIn K mainGlobals "bool" = some none)
    (z_int : PySem.W.nsIn K mainGlobals "int" = some none)
    (z_isinstance : PySem.W.nsIn K mainGlobals "isinstance" = some none)
    (z_iter : PySem.W.nsIn K mainGlobals "iter" = some none)
    (z_len : PySem.W.nsIn K mainGlobals "len" = some none)
    (z_list : PySem.W.nsIn K mainGlobals "list" = some none)
    (z_max : PySem.W.nsIn K mainGlobals "max" = some none)
    (z_min : PySem.W.nsIn K mainGlobals "min" = some none)
    (z_property : PySem.W.nsIn K mainGlobals "property" = some none)
    (z_range : PySem.W.nsIn K mainGlobals "range" = some none)
    (z_sorted : PySem.W.nsIn K mainGlobals "sorted" = some none)
    (z_str : PySem.W.nsIn K mainGlobals "str" = some none)
    (z_tuple : PySem.W.nsIn K mainGlobals "tuple" = some none)
    (z_zip : PySem.W.nsIn K mainGlobals "zip" = some none)
    : ∃ fd : FuncData, (∀ (s : Shared) (v : Value), BindsTo s fd ⟨[v], []⟩ [("script", v)]) ∧ ∀ base : Heap, K.In base → base.Ns mainGlobals mg → FnOk P w K mg base CX0 10 fa fd ["script"] (spLaw K) := by
  have e := hfa.symm.trans (PySem.W.mg_of X G a45)
  cases e
  have eC_Web : cA mg "Web" = C_Web := by
    unfold cA
    rw [PySem.W.mg_of X G aC_Web]
  subst eC_Web
  have F1 := fun_mk (st := st_reduced) l1 c1 k1
  have b1 := F1.binds (ps := ["row"]) fun _ _ _ _ _ _ us hl => match us, hl with | [_], _ => rfl
  have F2 := fun_mk (st := st_opposite) l2 c2 k2
  have b2 := F2.binds (ps := ["row"]) fun _ _ _ _ _ _ us hl => match us, hl with | [_], _ => rfl
  have F3 := fun_mk (st := st_split_core) l3 c3 k3
  have b3 := F3.binds (ps := ["row"]) fun _ _ _ _ _ _ us hl => match us, hl with | [_], _ => rfl
  have F4 := fun_mk (st := st_rotated) l4 c4 k4
  have b4 := F4.binds (ps := ["row", "start"]) fun _ _ _ _ _ _ us hl => match us, hl with | [_, _], _ => rfl
  have F5 := fun_mk (st := st_least_start) l5 c5 k5
  have b5 := F5.binds (ps := ["row"]) fun _ _ _ _ _ _ us hl => match us, hl with | [_], _ => rfl
  have F6 := fun_mk (st := st_ring_of) l6 c6 k6
  have b6 := F6.binds (ps := ["row"]) fun _ _ _ _ _ _ us hl => match us, hl with | [_], _ => rfl
  have F7 := fun_mk (st := st_is_integer) l7 c7 k7
  have b7 := F7.binds (ps := ["value"]) fun _ _ _ _ _ _ us hl => match us, hl with | [_], _ => rfl
  have F8 := fun_mk (st := st_is_within) l8 c8 k8
  have b8 := F8.binds (ps := ["value", "least", "most"]) fun _ _ _ _ _ _ us hl => match us, hl with | [_, _, _], _ => rfl
  have F9 := fun_mk (st := st_entries_of) l9 c9 k9
  have b9 := F9.binds (ps := ["letters"]) fun _ _ _ _ _ _ us hl => match us, hl with | [_], _ => rfl
  have F10 := fun_mk (st := st_begin_of) l10 c10 k10
  have b10 := F10.binds (ps := ["ties", "tie"]) fun _ _ _ _ _ _ us hl => match us, hl with | [_, _], _ => rfl
  have F11 := fun_mk (st := st_end_of) l11 c11 k11
  have b11 := F11.binds (ps := ["ties", "tie"]) fun _ _ _ _ _ _ us hl => match us, hl with | [_, _], _ => rfl
  have F12 := fun_mk (st := st_points_in) l12 c12 k12
  have b12 := F12.binds (ps := ["ties"]) fun _ _ _ _ _ _ us hl => match us, hl with | [_], _ => rfl
  have F13 := fun_mk (st := st_beginnings_at) l13 c13 k13
  have b13 := F13.binds (ps := ["ties", "point"]) fun _ _ _ _ _ _ us hl => match us, hl with | [_, _], _ => rfl
  have F14 := fun_mk (st := st_is_road_in) l14 c14 k14
  have b14 := F14.binds (ps := ["ties", "value"]) fun _ _ _ _ _ _ us hl => match us, hl with | [_, _], _ => rfl
  have F15 := fun_mk (st := st_is_round_in) l15 c15 k15
  have b15 := F15.binds (ps := ["ties", "road"]) fun _ _ _ _ _ _ us hl => match us, hl with | [_, _], _ => rfl
  have F16 := fun_mk (st := st_parts_by) l16 c16 k16
  have b16 := F16.binds (ps := ["ties", "chosen"]) fun _ _ _ _ _ _ us hl => match us, hl with | [_, _], _ => rfl
  have F17 := fun_mk (st := st_pieces_in) l17 c17 k17
  have b17 := F17.binds (ps := ["ties", "chosen"]) fun _ _ _ _ _ _ us hl => match us, hl with | [_, _], _ => rfl
  have F18 := fun_mk (st := st_rank_of_ties) l18 c18 k18
  have b18 := F18.binds (ps := ["ties"]) fun _ _ _ _ _ _ us hl => match us, hl with | [_], _ => rfl
  have F19 := fun_mk (st := st_are_ties) l19 c19 k19
  have b19 := F19.binds (ps := ["value"]) fun _ _ _ _ _ _ us hl => match us, hl with | [_], _ => rfl
  have F20 := fun_mk (st := st_check_web) l20 c20 k20
  have b20 := F20.binds (ps := ["web"]) fun _ _ _ _ _ _ us hl => match us, hl with | [_], _ => rfl
  have F21 := fun_mk (st := st_is_directed) l21 c21 k21
  have b21 := F21.binds (ps := ["web", "value"]) fun _ _ _ _ _ _ us hl => match us, hl with | [_, _], _ => rfl
  have F22 := fun_mk (st := st_check_directed) l22 c22 k22
  have b22 := F22.binds (ps := ["web", "tie"]) fun _ _ _ _ _ _ us hl => match us, hl with | [_, _], _ => rfl
  have F23 := fun_mk (st := st_check_point) l23 c23 k23
  have b23 := F23.binds (ps := ["web", "point"]) fun _ _ _ _ _ _ us hl => match us, hl with | [_, _], _ => rfl
  have F24 := fun_mk (st := st_check_road) l24 c24 k24
  have b24 := F24.binds (ps := ["web", "road"]) fun _ _ _ _ _ _ us hl => match us, hl with | [_, _], _ => rfl
  have F25 := fun_mk (st := st_tight_round) l25 c25 k25
  have b25 := F25.binds (ps := ["web", "road"]) fun _ _ _ _ _ _ us hl => match us, hl with | [_, _], _ => rfl
  have F26 := fun_mk (st := st__law_jar) l26 c26 k26
  have b26 := F26.binds (ps := ["script", "spot"]) fun _ _ _ _ _ _ us hl => match us, hl with | [_, _], _ => rfl
  have F27 := fun_mk (st := st__law_pour) l27 c27 k27
  have b27 := F27.binds (ps := ["jar", "total"]) fun _ _ _ _ _ _ us hl => match us, hl with | [_, _], _ => rfl
  have F28 := fun_mk (st := st__law_choose) l28 c28 k28
  have b28 := F28.binds (ps := ["jar", "items"]) fun _ _ _ _ _ _ us hl => match us, hl with | [_, _], _ => rfl
  have F29 := fun_mk (st := st__law_begin) l29 c29 k29
  have b29 := F29.binds (ps := ["ties", "tie"]) fun _ _ _ _ _ _ us hl => match us, hl with | [_, _], _ => rfl
  have F30 := fun_mk (st := st__law_end) l30 c30 k30
  have b30 := F30.binds (ps := ["ties", "tie"]) fun _ _ _ _ _ _ us hl => match us, hl with | [_, _], _ => rfl
  have F31 := fun_mk (st := st__law_directed) l31 c31 k31
  have b31 := F31.binds (ps := ["ties"]) fun _ _ _ _ _ _ us hl => match us, hl with | [_], _ => rfl
  have F32 := fun_mk (st := st__law_back) l32 c32 k32
  have b32 := F32.binds (ps := ["row"]) fun _ _ _ _ _ _ us hl => match us, hl with | [_], _ => rfl
  have F33 := fun_mk (st := st__law_bare) l33 c33 k33
  have b33 := F33.binds (ps := ["row"]) fun _ _ _ _ _ _ us hl => match us, hl with | [_], _ => rfl
  have F34 := fun_mk (st := st__law_ring) l34 c34 k34
  have b34 := F34.binds (ps := ["row"]) fun _ _ _ _ _ _ us hl => match us, hl with | [_], _ => rfl
  have F35 := fun_mk (st := st__law_shuffled) l35 c35 k35
  have b35 := F35.binds (ps := ["jar", "items"]) fun _ _ _ _ _ _ us hl => match us, hl with | [_, _], _ => rfl
  have F36 := fun_mk (st := st__law_web_drawn) l36 c36 k36
  have b36 := F36.binds (ps := ["jar", "most", "further"]) fun _ _ _ _ _ _ us hl => match us, hl with | [_, _, _], _ => rfl
  have F37 := fun_mk (st := st__law_points) l37 c37 k37
  have b37 := F37.binds (ps := ["ties"]) fun _ _ _ _ _ _ us hl => match us, hl with | [_], _ => rfl
  have F38 := fun_mk (st := st__law_beginnings) l38 c38 k38
  have b38 := F38.binds (ps := ["ties", "point"]) fun _ _ _ _ _ _ us hl => match us, hl with | [_, _], _ => rfl
  have F39 := fun_mk (st := st__law_walk) l39 c39 k39
  have b39 := F39.binds (ps := ["jar", "ties", "point", "many"]) fun _ _ _ _ _ _ us hl => match us, hl with | [_, _, _, _], _ => rfl
  have F40 := fun_mk (st := st__law_is_road) l40 c40 k40
  have b40 := F40.binds (ps := ["ties", "value"]) fun _ _ _ _ _ _ us hl => match us, hl with | [_, _], _ => rfl
  have F41 := fun_mk (st := st__law_puffed) l41 c41 k41
  have b41 := F41.binds (ps := ["jar", "ties", "road", "start"]) fun _ _ _ _ _ _ us hl => match us, hl with | [_, _, _, _], _ => rfl
  have F42 := fun_mk (st := st__law_near) l42 c42 k42
  have b42 := F42.binds (ps := ["jar", "ties", "road"]) fun _ _ _ _ _ _ us hl => match us, hl with | [_, _, _], _ => rfl
  have F43 := fun_mk (st := st__law_surface_right) l43 c43 k43
  have b43 := F43.binds (ps := ["ties", "web"]) fun _ _ _ _ _ _ us hl => match us, hl with | [_, _], _ => rfl
  have F44 := fun_mk (st := st__law_right) l44 c44 k44
  have b44 := F44.binds (ps := ["jar"]) fun _ _ _ _ _ _ us hl => match us, hl with | [_], _ => rfl
  have F46 := fun_mk (st := st_Web___init__) l46 c46 k46
  have b46 := F46.binds (ps := ["self", "ties"]) fun _ _ _ _ _ _ us hl => match us, hl with | [_, _], _ => rfl
  have F47 := fun_mk (st := st_Web_ties) l47 c47 k47
  have b47 := F47.binds (ps := ["self"]) fun _ _ _ _ _ _ us hl => match us, hl with | [_], _ => rfl
  have F48 := fun_mk (st := st_Web_points) l48 c48 k48
  have b48 := F48.binds (ps := ["self"]) fun _ _ _ _ _ _ us hl => match us, hl with | [_], _ => rfl
  have F49 := fun_mk (st := st_Web_size) l49 c49 k49
  have b49 := F49.binds (ps := ["self"]) fun _ _ _ _ _ _ us hl => match us, hl with | [_], _ => rfl
  have F50 := fun_mk (st := st_Web_rank) l50 c50 k50
  have b50 := F50.binds (ps := ["self"]) fun _ _ _ _ _ _ us hl => match us, hl with | [_], _ => rfl
  have F51 := fun_mk (st := st_Web_begin) l51 c51 k51
  have b51 := F51.binds (ps := ["self", "tie"]) fun _ _ _ _ _ _ us hl => match us, hl with | [_, _], _ => rfl
  have F52 := fun_mk (st := st_Web_end) l52 c52 k52
  have b52 := F52.binds (ps := ["self", "tie"]) fun _ _ _ _ _ _ us hl => match us, hl with | [_, _], _ => rfl
  have F53 := fun_mk (st := st_Web_beginnings) l53 c53 k53
  have b53 := F53.binds (ps := ["self", "point"]) fun _ _ _ _ _ _ us hl => match us, hl with | [_, _], _ => rfl
  have F54 := fun_mk (st := st_Web_loose_points) l54 c54 k54
  have b54 := F54.binds (ps := ["self"]) fun _ _ _ _ _ _ us hl => match us, hl with | [_], _ => rfl
  have F55 := fun_mk (st := st_Web_is_road) l55 c55 k55
  have b55 := F55.binds (ps := ["self", "value"]) fun _ _ _ _ _ _ us hl => match us, hl with | [_, _], _ => rfl
  have F56 := fun_mk (st := st_Web_tight) l56 c56 k56
  have b56 := F56.binds (ps := ["self", "road"]) fun _ _ _ _ _ _ us hl => match us, hl with | [_, _], _ => rfl
  have F57 := fun_mk (st := st_Web_gone_back) l57 c57 k57
  have b57 := F57.binds (ps := ["self", "road"]) fun _ _ _ _ _ _ us hl => match us, hl with | [_, _], _ => rfl
  have F58 := fun_mk (st := st_Web___eq__) l58 c58 k58
  have b58 := F58.binds (ps := ["self", "other"]) fun _ _ _ _ _ _ us hl => match us, hl with | [_, _], _ => rfl
  have F59 := fun_mk (st := st_Web___len__) l59 c59 k59
  have b59 := F59.binds (ps := ["self"]) fun _ _ _ _ _ _ us hl => match us, hl with | [_], _ => rfl
  have F60 := fun_mk (st := st_Web___iter__) l60 c60 k60
  have b60 := F60.binds (ps := ["self"]) fun _ _ _ _ _ _ us hl => match us, hl with | [_], _ => rfl
  have F61 := fun_mk (st := st_Web___str__) l61 c61 k61
  have b61 := F61.binds (ps := ["self"]) fun _ _ _ _ _ _ us hl => match us, hl with | [_], _ => rfl
  have T : Txt K mg := ⟨⟨_, _, F1, PySem.W.mg_of X G a1, b1⟩,
    ⟨_, _, F2, PySem.W.mg_of X G a2, b2⟩,
    ⟨_, _, F3, PySem.W.mg_of X G a3, b3⟩,
    ⟨_, _, F4, PySem.W.mg_of X G a4, b4⟩,
    ⟨_, _, F5, PySem.W.mg_of X G a5, b5⟩,
    ⟨_, _, F6, PySem.W.mg_of X G a6, b6⟩,
    ⟨_, _, F7, PySem.W.mg_of X G a7, b7⟩,
    ⟨_, _, F8, PySem.W.mg_of X G a8, b8⟩,
    ⟨_, _, F9, PySem.W.mg_of X G a9, b9⟩,
    ⟨_, _, F10, PySem.W.mg_of X G a10, b10⟩,
    ⟨_, _, F11, PySem.W.mg_of X G a11, b11⟩,
    ⟨_, _, F12, PySem.W.mg_of X G a12, b12⟩,
    ⟨_, _, F13, PySem.W.mg_of X G a13, b13⟩,
    ⟨_, _, F14, PySem.W.mg_of X G a14, b14⟩,
    ⟨_, _, F15, PySem.W.mg_of X G a15, b15⟩,
    ⟨_, _, F16, PySem.W.mg_of X G a16, b16⟩,
    ⟨_, _, F17, PySem.W.mg_of X G a17, b17⟩,
    ⟨_, _, F18, PySem.W.mg_of X G a18, b18⟩,
    ⟨_, _, F19, PySem.W.mg_of X G a19, b19⟩,
    ⟨_, _, F20, PySem.W.mg_of X G a20, b20⟩,
    ⟨_, _, F21, PySem.W.mg_of X G a21, b21⟩,
    ⟨_, _, F22, PySem.W.mg_of X G a22, b22⟩,
    ⟨_, _, F23, PySem.W.mg_of X G a23, b23⟩,
    ⟨_, _, F24, PySem.W.mg_of X G a24, b24⟩,
    ⟨_, _, F25, PySem.W.mg_of X G a25, b25⟩,
    ⟨_, _, F26, PySem.W.mg_of X G a26, b26⟩,
    ⟨_, _, F27, PySem.W.mg_of X G a27, b27⟩,
    ⟨_, _, F28, PySem.W.mg_of X G a28, b28⟩,
    ⟨_, _, F29, PySem.W.mg_of X G a29, b29⟩,
    ⟨_, _, F30, PySem.W.mg_of X G a30, b30⟩,
    ⟨_, _, F31, PySem.W.mg_of X G a31, b31⟩,
    ⟨_, _, F32, PySem.W.mg_of X G a32, b32⟩,
    ⟨_, _, F33, PySem.W.mg_of X G a33, b33⟩,
    ⟨_, _, F34, PySem.W.mg_of X G a34, b34⟩,
    ⟨_, _, F35, PySem.W.mg_of X G a35, b35⟩,
    ⟨_, _, F36, PySem.W.mg_of X G a36, b36⟩,
    ⟨_, _, F37, PySem.W.mg_of X G a37, b37⟩,
    ⟨_, _, F38, PySem.W.mg_of X G a38, b38⟩,
    ⟨_, _, F39, PySem.W.mg_of X G a39, b39⟩,
    ⟨_, _, F40, PySem.W.mg_of X G a40, b40⟩,
    ⟨_, _, F41, PySem.W.mg_of X G a41, b41⟩,
    ⟨_, _, F42, PySem.W.mg_of X G a42, b42⟩,
    ⟨_, _, F43, PySem.W.mg_of X G a43, b43⟩,
    ⟨_, _, F44, PySem.W.mg_of X G a44, b44⟩,
    ⟨_, _, F46, ⟨mk_Web, a46, i46, kc_Web⟩, b46⟩,
    ⟨_, _, _, F47, ⟨a47, g47, t47, _, r47⟩, b47⟩,
    ⟨_, _, _, F48, ⟨a48, g48, t48, _, r48⟩, b48⟩,
    ⟨_, _, _, F49, ⟨a49, g49, t49, _, r49⟩, b49⟩,
    ⟨_, _, _, F50, ⟨a50, g50, t50, _, r50⟩, b50⟩,
    ⟨_, _, F51, ⟨a51, i51, k51⟩, b51⟩,
    ⟨_, _, F52, ⟨a52, i52, k52⟩, b52⟩,
    ⟨_, _, F53, ⟨a53, i53, k53⟩, b53⟩,
    ⟨_, _, F54, ⟨a54, i54, k54⟩, b54⟩,
    ⟨_, _, F55, ⟨a55, i55, k55⟩, b55⟩,
    ⟨_, _, F56, ⟨a56, i56, k56⟩, b56⟩,
    ⟨_, _, F57, ⟨a57, i57, k57⟩, b57⟩,
    ⟨_, _, F58, ⟨a58, i58⟩, b58⟩,
    ⟨_, _, F59, ⟨a59, i59⟩, b59⟩,
    ⟨_, _, F60, ⟨a60, i60⟩, b60⟩,
    ⟨_, _, F61, ⟨a61, i61⟩, b61⟩,
    PySem.W.mg_of X G aC_Web,
    ⟨pg_Web, hd_Web, po_Web, sa_Web⟩,
    kc_Web,
    na_ties_Web,
    ⟨ne_Web, ob_Web⟩,
    ⟨ia_Web, ig_Web, it_Web, im_Web⟩,
    kit_no nc_Web ny_Web nttuple_Web,
    ⟨_, PySem.W.mg_of X G q_MAX_TIES⟩,
    PySem.W.mg_none_of X G z_abs,
    PySem.W.mg_none_of X G z_all,
    PySem.W.mg_none_of X G z_bool,
    PySem.W.mg_none_of X G z_int,
    PySem.W.mg_none_of X G z_isinstance,
    PySem.W.mg_none_of X G z_iter,
    PySem.W.mg_none_of X G z_len,
    PySem.W.mg_none_of X G z_list,
    PySem.W.mg_none_of X G z_max,
    PySem.W.mg_none_of X G z_min,
    PySem.W.mg_none_of X G z_property,
    PySem.W.mg_none_of X G z_range,
    PySem.W.mg_none_of X G z_sorted,
    PySem.W.mg_none_of X G z_str,
    PySem.W.mg_none_of X G z_tuple,
    PySem.W.mg_none_of X G z_zip⟩
  exact ⟨PySem.W.fnOf "law" "law" (defArgs st_law) (defBody st_law) (defScope st_law) .none kV45 dc45 pm45 an45 cd45 ct45, fun s v => .of_eq rfl, fun base _ _ => ok_law (fun_mk (st := st_law) l45 c45 k45) T⟩
theorem walk {l : PySem.W.OpenLaw} {q : Program} {loose : List Str} {XP : (Str → Option Value) → Heap → Prop} {YP : World → Heap → Prop} {d : DefRec} {K : Params → PySem.W.Frag} (hn : l.most = some 63) (hdf : d.params.defaults = [])
    (hY : ∀ (w : World) (h : Heap), YP w h → (K w.params).In h)
    (F : ∀ (w : World) (mg : Str → Option Value) (fa : Addr) (h : Heap), (K w.params).In h → h.Ns mainGlobals mg → mg d.name = some (.ref fa) →
      ∃ fd : FuncData, (∀ (s : Shared) (u : Value), BindsTo s fd ⟨[u], []⟩ [("script", u)]) ∧ ∀ base : Heap, (K w.params).In base → base.Ns mainGlobals mg → FnOk l.prog w (K w.params) mg base CX0 10 fa fd ["script"] (spLaw (K w.params))) :
    PySem.W.WalkO q loose XP YP l.row.toRowW d [] (fun f vs => PySem.call f vs) :=
  L2.walk_of (n := 63) (k := 10) (x := "script") (CX := fun _ => CX0) (sp := fun w => spLaw (K w.params)) hn (by decide) hdf ⟨rfl, by decide, by decide⟩ hY F (fun _ _ a ns hl _ hS => ⟨a, ns, rfl, hS, hl, fun _ => rfl⟩) fun _ _ _ _ _ z => z
end Pr

open PySem PySem.W PyProof.Rows in
set_option maxRecDepth 100000 in
set_option maxHeartbeats 0 in
theorem PySem.Challenge.cw_noroadback_k23_whole_webs_and_their_road_holds : PySem.Challenge.rw_noroadback_k23_whole_webs_and_their_road.Holds := by
  w_on; o_law; k_head; (case hw => w_witness2)
  k_fill
  refine Pr.walk (l := PySem.Challenge.rw_noroadback_k23_whole_webs_and_their_road) rfl rfl (fun w h Y => PySem.W.kIn_of Y) ?F
  case F =>
    intro w mg fa h KX G hmg
    refine' Pr.all_mk KX G hmg ?aC_Web ?pg_Web ?hd_Web ?po_Web ?sa_Web ?mk_Web ?kc_Web ?na_ties_Web ?ne_Web ?ob_Web ?ia_Web ?ig_Web ?it_Web ?im_Web ?nc_Web ?ny_Web ?nttuple_Web ?a1 ?l1 ?c1 ?k1 ?a2 ?l2 ?c2 ?k2 ?a3 ?l3 ?c3 ?k3 ?a4 ?l4 ?c4 ?k4 ?a5 ?l5 ?c5 ?k5 ?a6 ?l6 ?c6 ?k6 ?a7 ?l7 ?c7 ?k7 ?a8 ?l8 ?c8 ?k8 ?a9 ?l9 ?c9 ?k9 ?a10 ?l10 ?c10 ?k10 ?a11 ?l11 ?c11 ?k11 ?a12 ?l12 ?c12 ?k12 ?a13 ?l13 ?c13 ?k13 ?a14 ?l14 ?c14 ?k14 ?a15 ?l15 ?c15 ?k15 ?a16 ?l16 ?c16 ?k16 ?a17 ?l17 ?c17 ?k17 ?a18 ?l18 ?c18 ?k18 ?a19 ?l19 ?c19 ?k19 ?a20 ?l20 ?c20 ?k20 ?a21 ?l21 ?c21 ?k21 ?a22 ?l22 ?c22 ?k22 ?a23 ?l23 ?c23 ?k23 ?a24 ?l24 ?c24 ?k24 ?a25 ?l25 ?c25 ?k25 ?a26 ?l26 ?c26 ?k26 ?a27 ?l27 ?c27 ?k27 ?a28 ?l28 ?c28 ?k28 ?a29 ?l29 ?c29 ?k29 ?a30 ?l30 ?c30 ?k30 ?a31 ?l31 ?c31 ?k31 ?a32 ?l32 ?c32 ?k32 ?a33 ?l33 ?c33 ?k33 ?a34 ?l34 ?c34 ?k34 ?a35 ?l35 ?c35 ?k35 ?a36 ?l36 ?c36 ?k36 ?a37 ?l37 ?c37 ?k37 ?a38 ?l38 ?c38 ?k38 ?a39 ?l39 ?c39 ?k39 ?a40 ?l40 ?c40 ?k40 ?a41 ?l41 ?c41 ?k41 ?a42 ?l42 ?c42 ?k42 ?a43 ?l43 ?c43 ?k43 ?a44 ?l44 ?c44 ?k44 ?a45 ?l45 ?c45 ?k45 ?a46 ?i46 ?l46 ?c46 ?k46 ?a47 ?g47 ?t47 ?r47 ?l47 ?c47 ?k47 ?a48 ?g48 ?t48 ?r48 ?l48 ?c48 ?k48 ?a49 ?g49 ?t49 ?r49 ?l49 ?c49 ?k49 ?a50 ?g50 ?t50 ?r50 ?l50 ?c50 ?k50 ?a51 ?i51 ?l51 ?c51 ?k51 ?a52 ?i52 ?l52 ?c52 ?k52 ?a53 ?i53 ?l53 ?c53 ?k53 ?a54 ?i54 ?l54 ?c54 ?k54 ?a55 ?i55 ?l55 ?c55 ?k55 ?a56 ?i56 ?l56 ?c56 ?k56 ?a57 ?i57 ?l57 ?c57 ?k57 ?a58 ?i58 ?l58 ?c58 ?k58 ?a59 ?i59 ?l59 ?c59 ?k59 ?a60 ?i60 ?l60 ?c60 ?k60 ?a61 ?i61 ?l61 ?c61 ?k61 ?q_MAX_TIES ?z_abs ?z_all ?z_bool ?z_int ?z_isinstance ?z_iter ?z_len ?z_list ?z_max ?z_min ?z_property ?z_range ?z_sorted ?z_str ?z_tuple ?z_zip
    (case aC_Web => k_is)
    (case pg_Web => k_is)
    (case hd_Web => k_is)
    (case po_Web => k_is)
    (case sa_Web => k_is)
    (case mk_Web => k_is)
    (case kc_Web => k_is)
    (case na_ties_Web => k_is)
    (case ne_Web => k_is)
    (case ob_Web => k_is)
    (case ia_Web => k_is)
    (case ig_Web => k_is)
    (case it_Web => k_is)
    (case im_Web => k_is)
    (case nc_Web => k_is)
    (case ny_Web => k_is)
    (case nttuple_Web => k_is)
    (case a1 => k_is)
    (case l1 => k_is)
    (case c1 => k_is)
    (case k1 => k_is)
    (case a2 => k_is)
    (case l2 => k_is)
    (case c2 => k_is)
    (case k2 => k_is)
    (case a3 => k_is)
    (case l3 => k_is)
    (case c3 => k_is)
    (case k3 => k_is)
    (case a4 => k_is)
    (case l4 => k_is)
    (case c4 => k_is)
    (case k4 => k_is)
    (case a5 => k_is)
    (case l5 => k_is)
    (case c5 => k_is)
    (case k5 => k_is)
    (case a6 => k_is)
    (case l6 => k_is)
    (case c6 => k_is)
    (case k6 => k_is)
    (case a7 => k_is)
    (case l7 => k_is)
    (case c7 => k_is)
    (case k7 => k_is)
    (case a8 => k_is)
    (case l8 => k_is)
    (case c8 => k_is)
    (case k8 => k_is)
    (case a9 => k_is)
    (case l9 => k_is)
    (case c9 => k_is)
    (case k9 => k_is)
    (case a10 => k_is)
    (case l10 => k_is)
    (case c10 => k_is)
    (case k10 => k_is)
    (case a11 => k_is)
    (case l11 => k_is)
    (case c11 => k_is)
    (case k11 => k_is)
    (case a12 => k_is)
    (case l12 => k_is)
    (case c12 => k_is)
    (case k12 => k_is)
    (case a13 => k_is)
    (case l13 => k_is)
    (case c13 => k_is)
    (case k13 => k_is)
    (case a14 => k_is)
    (case l14 => k_is)
    (case c14 => k_is)
    (case k14 => k_is)
    (case a15 => k_is)
    (case l15 => k_is)
    (case c15 => k_is)
    (case k15 => k_is)
    (case a16 => k_is)
    (case l16 => k_is)
    (case c16 => k_is)
    (case k16 => k_is)
    (case a17 => k_is)
    (case l17 => k_is)
    (case c17 => k_is)
    (case k17 => k_is)
    (case a18 => k_is)
    (case l18 => k_is)
    (case c18 => k_is)
    (case k18 => k_is)
    (case a19 => k_is)
    (case l19 => k_is)
    (case c19 => k_is)
    (case k19 => k_is)
    (case a20 => k_is)
    (case l20 => k_is)
    (case c20 => k_is)
    (case k20 => k_is)
    (case a21 => k_is)
    (case l21 => k_is)
    (case c21 => k_is)
    (case k21 => k_is)
    (case a22 => k_is)
    (case l22 => k_is)
    (case c22 => k_is)
    (case k22 => k_is)
    (case a23 => k_is)
    (case l23 => k_is)
    (case c23 => k_is)
    (case k23 => k_is)
    (case a24 => k_is)
    (case l24 => k_is)
    (case c24 => k_is)
    (case k24 => k_is)
    (case a25 => k_is)
    (case l25 => k_is)
    (case c25 => k_is)
    (case k25 => k_is)
    (case a26 => k_is)
    (case l26 => k_is)
    (case c26 => k_is)
    (case k26 => k_is)
    (case a27 => k_is)
    (case l27 => k_is)
    (case c27 => k_is)
    (case k27 => k_is)
    (case a28 => k_is)
    (case l28 => k_is)
    (case c28 => k_is)
    (case k28 => k_is)
    (case a29 => k_is)
    (case l29 => k_is)
    (case c29 => k_is)
    (case k29 => k_is)
    (case a30 => k_is)
    (case l30 => k_is)
    (case c30 => k_is)
    (case k30 => k_is)
    (case a31 => k_is)
    (case l31 => k_is)
    (case c31 => k_is)
    (case k31 => k_is)
    (case a32 => k_is)
    (case l32 => k_is)
    (case c32 => k_is)
    (case k32 => k_is)
    (case a33 => k_is)
    (case l33 => k_is)
    (case c33 => k_is)
    (case k33 => k_is)
    (case a34 => k_is)
    (case l34 => k_is)
    (case c34 => k_is)
    (case k34 => k_is)
    (case a35 => k_is)
    (case l35 => k_is)
    (case c35 => k_is)
    (case k35 => k_is)
    (case a36 => k_is)
    (case l36 => k_is)
    (case c36 => k_is)
    (case k36 => k_is)
    (case a37 => k_is)
    (case l37 => k_is)
    (case c37 => k_is)
    (case k37 => k_is)
    (case a38 => k_is)
    (case l38 => k_is)
    (case c38 => k_is)
    (case k38 => k_is)
    (case a39 => k_is)
    (case l39 => k_is)
    (case c39 => k_is)
    (case k39 => k_is)
    (case a40 => k_is)
    (case l40 => k_is)
    (case c40 => k_is)
    (case k40 => k_is)
    (case a41 => k_is)
    (case l41 => k_is)
    (case c41 => k_is)
    (case k41 => k_is)
    (case a42 => k_is)
    (case l42 => k_is)
    (case c42 => k_is)
    (case k42 => k_is)
    (case a43 => k_is)
    (case l43 => k_is)
    (case c43 => k_is)
    (case k43 => k_is)
    (case a44 => k_is)
    (case l44 => k_is)
    (case c44 => k_is)
    (case k44 => k_is)
    (case a45 => k_is)
    (case l45 => k_is)
    (case c45 => k_is)
    (case k45 => k_is)
    (case a46 => k_is)
    (case i46 => k_is)
    (case l46 => k_is)
    (case c46 => k_is)
    (case k46 => k_is)
    (case a47 => k_is)
    (case g47 => k_is)
    (case t47 => k_is)
    (case r47 => k_is)
    (case l47 => k_is)
    (case c47 => k_is)
    (case k47 => k_is)
    (case a48 => k_is)
    (case g48 => k_is)
    (case t48 => k_is)
    (case r48 => k_is)
    (case l48 => k_is)
    (case c48 => k_is)
    (case k48 => k_is)
    (case a49 => k_is)
    (case g49 => k_is)
    (case t49 => k_is)
    (case r49 => k_is)
    (case l49 => k_is)
    (case c49 => k_is)
    (case k49 => k_is)
    (case a50 => k_is)
    (case g50 => k_is)
    (case t50 => k_is)
    (case r50 => k_is)
    (case l50 => k_is)
    (case c50 => k_is)
    (case k50 => k_is)
    (case a51 => k_is)
    (case i51 => k_is)
    (case l51 => k_is)
    (case c51 => k_is)
    (case k51 => k_is)
    (case a52 => k_is)
    (case i52 => k_is)
    (case l52 => k_is)
    (case c52 => k_is)
    (case k52 => k_is)
    (case a53 => k_is)
    (case i53 => k_is)
    (case l53 => k_is)
    (case c53 => k_is)
    (case k53 => k_is)
    (case a54 => k_is)
    (case i54 => k_is)
    (case l54 => k_is)
    (case c54 => k_is)
    (case k54 => k_is)
    (case a55 => k_is)
    (case i55 => k_is)
    (case l55 => k_is)
    (case c55 => k_is)
    (case k55 => k_is)
    (case a56 => k_is)
    (case i56 => k_is)
    (case l56 => k_is)
    (case c56 => k_is)
    (case k56 => k_is)
    (case a57 => k_is)
    (case i57 => k_is)
    (case l57 => k_is)
    (case c57 => k_is)
    (case k57 => k_is)
    (case a58 => k_is)
    (case i58 => k_is)
    (case l58 => k_is)
    (case c58 => k_is)
    (case k58 => k_is)
    (case a59 => k_is)
    (case i59 => k_is)
    (case l59 => k_is)
    (case c59 => k_is)
    (case k59 => k_is)
    (case a60 => k_is)
    (case i60 => k_is)
    (case l60 => k_is)
    (case c60 => k_is)
    (case k60 => k_is)
    (case a61 => k_is)
    (case i61 => k_is)
    (case l61 => k_is)
    (case c61 => k_is)
    (case k61 => k_is)
    (case q_MAX_TIES => k_is)
    (case z_abs => k_is)
    (case z_all => k_is)
    (case z_bool => k_is)
    (case z_int => k_is)
    (case z_isinstance => k_is)
    (case z_iter => k_is)
    (case z_len => k_is)
    (case z_list => k_is)
    (case z_max => k_is)
    (case z_min => k_is)
    (case z_property => k_is)
    (case z_range => k_is)
    (case z_sorted => k_is)
    (case z_str => k_is)
    (case z_tuple => k_is)
    (case z_zip => k_is)
