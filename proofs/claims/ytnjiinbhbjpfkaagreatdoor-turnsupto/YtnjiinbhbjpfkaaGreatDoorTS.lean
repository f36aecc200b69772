import Derived.Test.YtnjiinbhbjpfkaaGreatDoorTM
import Derived.Deep.LoopGhost
set_option maxRecDepth 100000
set_option maxHeartbeats 0
set_option linter.all false
namespace Go.Proofs.YtnjiinbhbjpfkaaGreatDoor
open Go.RowKit Go.Proofs.Tryz
section
structure NS(w:aa) (eb:Nat) (clk:Int) (U:Nat->Int) (xs:List Nat):Prop where
 le:eb<w.heap.size
 OE:w.cell? ⟨eb,28,none⟩=some (.int .i64 clk)
 none_:xs=[]->∃ad c,w.cell? ⟨eb,33,none⟩=some (.slice ad 0 c)
 some_:∀x r,xs=x :: r->∃zb c,w.cell? ⟨eb,33,none⟩=some (.slice (some ⟨zb,0,none⟩) (r.length+1) c)/\w.cell? ⟨zb,0,none⟩=some (P0 x)/\w.cell? ⟨x,5,none⟩=some (.int .i64 (U x))/\x<w.heap.size
theorem KU(eb:Nat)(clk:Int)(U:Nat->Int)(I:List Nat->aa->Prop)(xs:List Nat)(w:aa)(hI:I xs w)(HG:∀ys w1 w2,I ys w1->w1.grownBy w2 none->I ys w2)(HS:∀ys w1,I ys w1->NS w1 eb clk U ys)(HJ:∀x r w1,I (x :: r) w1->U x<=clk->eL 110 #[Pt eb 32,P0 x] w1 λw'=>I r w'): eL 67 #[P0 eb] w λw'=>I (xs.dropWhile (λx=>decide (U x<=clk))) w':=by
 have KI:=bj hI;have KG:=bj HG;have KS:=bj HS;have KJ:=bj HJ;clear hI HG HS HJ;delta eL;go_in;go_wp2_with fail
 go_loopg [] (xs.length) (λn wr=>∃ys:List Nat,ys.length=n/\Hid (I ys wr)/\Hid (ys.dropWhile (λx=>decide (U x<=clk))=xs.dropWhile (λx=>decide (U x<=clk))))
 case atStart=>exact⟨xs,rfl,KI,rfl⟩
 case round=>
  obtain⟨ys,Y,rI,rD⟩:=hrel;obtain⟨le,a2,o,u⟩:=KS.out ys wr rI.out
  cases ys with
  | nil=>
   obtain⟨ad,c,i⟩:=o rfl;have y:=λ(w':aa) (h:w'.cell? (ay eb 33)=some (.slice ad 0 c))=>gL eb 33 0 c ad w' h;simp only[decide_true]at y;have Z:=bj y;clear y o u;go_wp2_with fail
   go_quiet (first|(go_at_call 70;refine Calls.quiet_of_same (Z.out _ (by first|exact i|simpa using i))))
   go_wp2_with fail
   go_end0;refine⟨rfl,?_⟩;have:=rD.out;rw[<-this];exact KG.out _ _ _ rI.out (df (aw _ _) _)
  | cons x r=>
   obtain⟨zb,c,i,J,c5,lx⟩:=u x r rfl;have y:=λ(w':aa) (h:w'.cell? (ay eb 33)=some (dA zb (r.length+1) c))=>gL eb 33 (r.length+1) c (some (ay zb 0)) w' h;have hd:decide ((r.length+1:Nat)=0)=false:=eB
   simp only[hd]at y;have hF:=λ(w':aa) (h:w'.cell? (ay eb 33)=some (dA zb (r.length+1) c)) (h2:w'.cell? (ay zb 0)=some (P0 x))=>pQ eb 33 r.length c zb x w' h h2;have Z:=bj y;have G:=bj hF;clear y hF hd o u;by_cases H:U x<=clk
   .have a1:decide (U x<=clk)=true:=gG H
    have HU:=bj H;clear H;go_wp2_with fail
    go_quiet (first|(go_at_call 70;refine Calls.quiet_of_same (Z.out _ (by first|exact i|simpa using i)))|(go_at_call 132;refine Calls.quiet_of_same (G.out _ (by first|exact i|simpa using i) (by first|exact J|simpa using J))))
    go_wp2_with fail
    go_region_with (first|(go_at_call 132;refine(G.out _ ?_ ?_).mono ?_;exact i;exact J;rintro e w2 ⟨rfl,rfl⟩)|(go_at_call 110;refine(KJ.out x r _ ?_ HU.out).mono ?_;exact KG.out _ _ _ rI.out (bo (df (aw _ _) _));rintro e w4 ⟨rfl,W⟩;have a0:=bj W;clear W))
    all_goals
     go_wp2_with fail
     go_roundg (r.length)
     case measure=>first|omega|(simp at Y;omega)
     case rel=>
      refine⟨r,rfl,a0,?_⟩;have:=rD.out;rw[List.dropWhile_cons_of_pos (gG HU.out)]at this;exact this
   have a1:decide (U x<=clk)=false:=gG H
   have HU:=bj H;clear H;go_wp2_with fail
   go_quiet (first|(go_at_call 70;refine Calls.quiet_of_same (Z.out _ (by first|exact i|simpa using i)))|(go_at_call 132;refine Calls.quiet_of_same (G.out _ (by first|exact i|simpa using i) (by first|exact J|simpa using J))))
   go_wp2_with fail
   go_end0;refine⟨rfl,?_⟩;have:=rD.out;rw[<-this,List.dropWhile_cons_of_neg (gG HU.out)];exact KG.out _ _ _ rI.out (df (aw _ _) _)
